/- What is proved: BreakerForced of porpoiselaw09 answers true for every input, and leaves its arguments as they were; conditions: those of the given row alone. -/
import Derived.Test.YtnggcegoomhneaaKit
import Derived.Test.YtnggcegoomhneaaRan09
namespace Go.Proofs.Ytnggcegoomhneaa.breakerForced
open Go.ChangeShapes Go.WideShapes Go.ChangeAt Go.RowKit Go.Deep
open Go.ChangeMaps (open_string shut_string)
set_option linter.unusedVariables false

theorem own : ownKnob Try.prog.godebug = none := by kernel_rfl
theorem laidOut : laidOutB Try.prog = true := by kernel_rfl

theorem forced_is {s f : Int} {x : BK} (h : x.Of (confC s f)) (hf : f ≠ 0) : x = ⟨s, f, 1, 0⟩ := by
  have h1 : x.sleep = s := h.sleep
  have h2 : x.force = f := h.force
  obtain ⟨h3, h4⟩ := h.forced hf
  cases x
  simp_all

set_option maxRecDepth 100000 in
set_option maxHeartbeats 2000000 in
theorem walk (w : World) (a0 : Int) (w0 : (Lit.int .u64 a0).wf = true) (a1 : Option Addr) (l1 k1 : Nat) (L1 : List (List Value)) (w1 : SliceIn w [.int .i64, .int .u64, .bool] 24 a1 l1 k1 L1) (a2 : Bool) :
    Calls Try.prog 5 #[.int .u64 a0, .slice a1 l1 k1, .bool a2] w fun e w' => e = .returned (.bool true) ∧ Below w.heap.size w w' := by
  have b0 := wf_u64 w0
  have HS := Lib.hid w1
  have B0 : Hid (u64B a0) := Lib.hid b0
  clear w0 w1 b0
  cases a2
  all_goals
    go_enter Try.func5, Try.ntmps5
    go_wp2_with fail
    refine (awake_any _).mono ?_
    rintro r wa ⟨rfl, hba⟩
    have HA := Lib.hid hba
    clear hba
    go_wp2_with fail
    refine (conf_any a0 _ wa (by omega)).mono ?_
    rintro r wb ⟨rfl, hb⟩
    have HB := Lib.hid (HA.out.trans (hb.mono HA.out.size))
    clear hb HA
    go_wp2_with fail
    refine (ran_any w (confC a0 _) a1 l1 k1 L1 wb (confC_fits B0.out (by omega)) HS.out HB.out).mono ?_
    rintro r w2 ⟨b, now, rfl, hn, x, hof, hx⟩
    obtain rfl := forced_is hof (by omega)
    have H2 := Lib.hid hx
    have HN := Lib.hid hn
    clear hx hn hof
    go_wp2_with fail
    first
      | refine (ob_ask w b now _ w2 H2.out HN.out 1 ⟨a0, 2, 1, 0⟩ rfl rfl).mono ?_
      | refine (ob_ask w b now _ w2 H2.out HN.out 3 ⟨a0, 1, 1, 0⟩ rfl rfl).mono ?_
    rintro r w3 ⟨rfl, h3, _⟩
    have H3 := Lib.hid h3
    clear h3 H2
    go_wp2_with fail
    refine (ob_trip w b now _ w3 H3.out HN.out false ⟨a0, _, 1, 0⟩ rfl rfl).mono ?_
    rintro r w4 ⟨rfl, h4, _⟩
    have H4 := Lib.hid h4
    clear h4 H3
    go_wp2_with fail
    refine (ob_done w b now true _ w4 H4.out HN.out false ⟨a0, _, 1, 0⟩ rfl rfl).mono ?_
    rintro r w5 ⟨rfl, h5, _⟩
    have H5 := Lib.hid h5
    clear h5 H4
    go_wp2_with fail
    refine (ob_back w b _ w5 H5.out false ⟨a0, _, 1, 0⟩ rfl rfl).mono ?_
    rintro r w6 ⟨rfl, h6, _⟩
    have H6 := Lib.hid h6
    clear h6 H5
    go_wp2_with fail
    refine (ob_state w b _ w6 H6.out 1 rfl).mono ?_
    rintro r wx ⟨rfl, rfl⟩
    go_wp2_with fail
    refine (ob_since w b _ w6 H6.out 0 rfl).mono ?_
    rintro r wx ⟨rfl, rfl⟩
    go_wp2
    go_ret
    exact ⟨rfl, H6.out.low⟩

set_option maxRecDepth 100000 in
theorem lifted (os : Os) (started : os.Started) (H : Type) (enc : TypeId × Value → H) :
    ReturnsInHanded {} Try.checked os 5 .any (Rows.breakerForcedSpec.pre6 enc Try.prog Try.f5 Rows.breakerForcedRow.domain false) (Rows.breakerForcedSpec.post enc Try.prog Try.f5 false true false false) := by
  refine returnsInHanded_of_change_sized (C := Try.checked) own started (by kernel_rfl) Try.func5
    (ChangeSpec.witness6 (enc := enc) (C := Try.checked) false ⟨#[], #[.int .u64 0, .slice none 0 0, .bool false], []⟩ 8 (by kernel_rfl) (by kernel_rfl) (by kernel_rfl) (by kernel_rfl)) ?_
  intro W base args ds gs before hval0 hW hcnd hsz0 _
  have hval : ∀ (j : Nat) t v, Try.f5.params[j]? = some t → args[j]? = some v → Value.okWide Try.prog W .any base t v := hval0
  have hsz : (DataW.weightsEach Try.prog (Try.f5.params.toList ++ Rows.breakerForcedSpec.plain.varTypes Try.prog) (ds ++ gs)).all (· ≤ reachBytes) = true := hsz0
  have hW' := hW
  obtain ⟨p, q, hA0, hV, rfl, hfz, hnd⟩ := hW
  have hA : DataW.TrodAll enc Try.prog W 0 (fun _ => true) true Try.f5.params.toList args.toList ds p := hA0
  rw [Try.params5] at hA hval hsz
  have hAk := hA
  obtain ⟨v0, vs0, d0, ds0, p0, q0, hargs, rfl, rfl, h0, r0⟩ := trodAll_cons hA
  obtain ⟨v1, vs1, d1, ds1, p1, q1, rfl, rfl, rfl, h1, r1⟩ := trodAll_cons r0
  obtain ⟨v2, vs2, d2, ds2, p2, q2, rfl, rfl, rfl, h2, r2⟩ := trodAll_cons r1
  obtain ⟨rfl, rfl, rfl⟩ := trodAll_nil r2
  obtain rfl : args = #[v0, v1, v2] := by cases args; simp_all
  obtain ⟨rfl, rfl⟩ := trodVars_none hV
  obtain ⟨a0, rfl, rfl, rfl, w0⟩ := open_int Try.underlying22 (hval 0 22 v0 rfl rfl) h0
  obtain ⟨a1, l1, k1, L1, rfl, w1⟩ := open_slice_flat (ks := [.int .i64, .int .u64, .bool]) (bytes := 24) 8 Try.underlying25 (by kernel_rfl) (by kernel_rfl) (by decide) (by kernel_rfl) (hval 1 25 v1 rfl rfl) h1 (fun elems rest hd => by subst hd; exact sized_slice hsz (j := 1) (t := 25) (e := 34) rfl rfl Try.underlying25)
  obtain ⟨a2, rfl, rfl, rfl⟩ := open_bool Try.underlying4 (hval 2 4 v2 rfl rfl) h2
  clear hA0 hval0 hsz0
  refine (walk W a0 w0 a1 l1 k1 L1 w1 a2).mono fun e W' ⟨he, bel⟩ => ?_
  subst he
  exact ⟨_, rfl, _, _, _, [], _, [], hW', trodAll_mk1 (shut_bool Try.underlying4 _), trodAll_below laidOut bel _ _ _ _ (by kernel_rfl) hAk, rfl, bel.frame _, fun h => by cases h⟩

theorem over : Rows.breakerForcedRow.holds Try.pinned (OpenSpec.ofChange Rows.breakerForcedSpec) :=
  OpenClaim.holds_of_wide 5 Try.f5 rfl rfl rfl rfl rfl rfl rfl ⟨rfl, rfl, rfl, rfl, rfl⟩ rfl rfl rfl rfl rfl (by kernel_rfl) Try.func5 (by kernel_rfl)
    (of_decide_eq_true (by kernel_rfl)) (by unfold Func.isWrapper; first | (rw [if_pos (by decide +kernel)]; kernel_rfl) | (rw [if_neg (by decide +kernel)]; exact ⟨rfl, rfl⟩))
    (fun os started H enc _ => lifted os started H enc)

theorem proved : Rows.BreakerForcedSaid := over
#print axioms proved
end Go.Proofs.Ytnggcegoomhneaa.breakerForced
