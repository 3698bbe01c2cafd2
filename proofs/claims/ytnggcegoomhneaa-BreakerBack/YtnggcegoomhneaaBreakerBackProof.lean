/- What is proved: BreakerBack of porpoiselaw09 answers true for every input, and leaves its arguments as they were; conditions: those of the given row alone. -/
import Derived.Test.YtnggcegoomhneaaKit
import Derived.Test.YtnggcegoomhneaaRan09
namespace Go.Proofs.Ytnggcegoomhneaa.breakerBack
open Go.ChangeShapes Go.WideShapes Go.ChangeAt Go.RowKit Go.Deep
open Go.ChangeMaps (open_string shut_string)
set_option linter.unusedVariables false

theorem own : ownKnob Try.prog.godebug = none := by kernel_rfl
theorem laidOut : laidOutB Try.prog = true := by kernel_rfl

theorem back_of {s : Int} {x : BK} (h : x.Of (confC s 0)) (now : Int) (hs : x.state = 1 ∨ x.state = 2) : (x.ask now).half = (x.asked now == 2) ∧ (x.ask now).back = x := by
  have hf : x.force = 0 := h.force
  by_cases hw : x.wakes now
  · have h2 : x.state = 2 := hw.2.2.1
    have e : x.ask now = { x with state := 3 } := by unfold BK.ask; rw [if_pos hw]
    have e' : x.asked now = 2 := by unfold BK.asked; rw [if_neg (by omega), if_neg (by omega), if_pos hw]
    rw [e, e']
    refine ⟨rfl, ?_⟩
    cases x
    simp_all [BK.back]
  · have e : x.ask now = x := by unfold BK.ask; rw [if_neg hw]
    have e' : x.asked now = 1 ∨ x.asked now = 3 := by
      unfold BK.asked
      split
      · exact .inr rfl
      · split
        · exact .inl rfl
        · exact .inr rfl
    have h3 : ¬ x.state = 3 := by omega
    rw [e]
    refine ⟨?_, by unfold BK.back; rw [if_neg h3]⟩
    have : x.half = false := by unfold BK.half; simp [h3]
    rw [this]
    rcases e' with e' | e' <;> rw [e'] <;> rfl
theorem back_state {s : Int} {x : BK} (h : x.Of (confC s 0)) (h3 : x.state = 3) : x.back.state = 2 := by unfold BK.back; rw [if_pos h3]

set_option maxRecDepth 100000 in
set_option maxHeartbeats 2000000 in
theorem walk (w : World) (a0 : Int) (w0 : (Lit.int .u64 a0).wf = true) (a1 : Option Addr) (l1 k1 : Nat) (L1 : List (List Value)) (w1 : SliceIn w [.int .i64, .int .u64, .bool] 24 a1 l1 k1 L1) :
    Calls Try.prog 7 #[.int .u64 a0, .slice a1 l1 k1] w fun e w' => e = .returned (.bool true) ∧ Below w.heap.size w w' := by
  have b0 := wf_u64 w0
  have HS := Lib.hid w1
  have B0 : Hid (u64B a0) := Lib.hid b0
  clear w0 w1 b0
  go_enter Try.func7, Try.ntmps7
  go_wp2_with fail
  refine (awake_any _).mono ?_
  rintro r wa ⟨rfl, hba⟩
  have HA := Lib.hid hba
  clear hba
  go_wp2_with fail
  refine (conf_any a0 0 wa (.inl rfl)).mono ?_
  rintro r wb ⟨rfl, hb⟩
  have HB := Lib.hid (HA.out.trans (hb.mono HA.out.size))
  clear hb HA
  go_wp2_with fail
  refine (ran_any w (confC a0 0) a1 l1 k1 L1 wb (confC_fits B0.out (by omega)) HS.out HB.out).mono ?_
  rintro r w2 ⟨b, now, rfl, hn, x, hof, hx⟩
  have H2 := Lib.hid hx
  have HN := Lib.hid hn
  have OF := Lib.hid hof
  clear hx hn hof
  go_wp2_with fail
  refine (ob_state w b x w2 H2.out _ rfl).mono ?_
  rintro r wx ⟨rfl, rfl⟩
  by_cases h3 : x.state = 3
  have h3' : (x.state == 3) = true := by simp [h3]
  have hy2 : Hid (x.back.state = 1 ∨ x.back.state = 2) := Lib.hid (.inr (back_state OF.out h3))
  have OY := Lib.hid OF.out.back
  clear h3
  go_wp2_with fail
  refine (ob_back w b x w2 H2.out _ _ rfl rfl).mono ?_
  rintro r w3 ⟨rfl, h3, _⟩
  have H3 := Lib.hid h3
  clear h3 h3' OF H2
  generalize x.back = y at *
  rotate_left
  have h3' : (x.state == 3) = false := by simp [h3]
  have hy2 : Hid (x.state = 1 ∨ x.state = 2) := Lib.hid (by have := OF.out.state; omega)
  have OY := OF
  have H3 := H2
  clear h3 OF H2
  generalize x = y at *
  generalize w2 = w3 at *
  all_goals
    go_wp2_with fail
    refine (ob_state w b y w3 H3.out _ rfl).mono ?_
    rintro r wx ⟨rfl, rfl⟩
    go_wp2_with fail
    refine (ob_since w b y w3 H3.out _ rfl).mono ?_
    rintro r wx ⟨rfl, rfl⟩
    go_wp2_with fail
    obtain ⟨e1, e2⟩ := back_of OY.out now hy2.out
    have E1 := Lib.hid e1
    have E2 := Lib.hid e2
    clear e1 e2
    obtain ⟨m, hm⟩ : ∃ m, y.asked now = m := ⟨_, rfl⟩
    rw [hm] at E1
    have HM := Lib.hid hm
    clear hm
    refine (ob_ask w b now y w3 H3.out HN.out m _ HM.out rfl).mono ?_
    rintro r w4 ⟨rfl, h4, _⟩
    have H4 := Lib.hid h4
    clear h4
    go_wp2_with fail
    refine (ob_back w b _ w4 H4.out (m == 2) y E1.out E2.out).mono ?_
    rintro r w5 ⟨rfl, h5, _⟩
    have H5 := Lib.hid h5
    clear h5 H4
    go_wp2_with fail
    refine (ob_state w b y w5 H5.out _ rfl).mono ?_
    rintro r wx ⟨rfl, rfl⟩
    go_wp2_with fail
    refine (ob_since w b y w5 H5.out _ rfl).mono ?_
    rintro r wx ⟨rfl, rfl⟩
    go_wp2_with fail
    refine (ob_ask w b now y w5 H5.out HN.out m _ HM.out rfl).mono ?_
    rintro r w6 ⟨rfl, h6, _⟩
    have H6 := Lib.hid h6
    clear h6
    go_wp2
    go_ret
    exact ⟨rfl, H6.out.low⟩

set_option maxRecDepth 100000 in
theorem lifted (os : Os) (started : os.Started) (H : Type) (enc : TypeId × Value → H) :
    ReturnsInHanded {} Try.checked os 7 .any (Rows.breakerBackSpec.pre6 enc Try.prog Try.f7 Rows.breakerBackRow.domain false) (Rows.breakerBackSpec.post enc Try.prog Try.f7 false true false false) := by
  refine returnsInHanded_of_change_sized (C := Try.checked) own started (by kernel_rfl) Try.func7
    (ChangeSpec.witness6 (enc := enc) (C := Try.checked) false ⟨#[], #[.int .u64 0, .slice none 0 0], []⟩ 8 (by kernel_rfl) (by kernel_rfl) (by kernel_rfl) (by kernel_rfl)) ?_
  intro W base args ds gs before hval0 hW hcnd hsz0 _
  have hval : ∀ (j : Nat) t v, Try.f7.params[j]? = some t → args[j]? = some v → Value.okWide Try.prog W .any base t v := hval0
  have hsz : (DataW.weightsEach Try.prog (Try.f7.params.toList ++ Rows.breakerBackSpec.plain.varTypes Try.prog) (ds ++ gs)).all (· ≤ reachBytes) = true := hsz0
  have hW' := hW
  obtain ⟨p, q, hA0, hV, rfl, hfz, hnd⟩ := hW
  have hA : DataW.TrodAll enc Try.prog W 0 (fun _ => true) true Try.f7.params.toList args.toList ds p := hA0
  rw [Try.params7] at hA hval hsz
  have hAk := hA
  obtain ⟨v0, vs0, d0, ds0, p0, q0, hargs, rfl, rfl, h0, r0⟩ := trodAll_cons hA
  obtain ⟨v1, vs1, d1, ds1, p1, q1, rfl, rfl, rfl, h1, r1⟩ := trodAll_cons r0
  obtain ⟨rfl, rfl, rfl⟩ := trodAll_nil r1
  obtain rfl : args = #[v0, v1] := by cases args; simp_all
  obtain ⟨rfl, rfl⟩ := trodVars_none hV
  obtain ⟨a0, rfl, rfl, rfl, w0⟩ := open_int Try.underlying22 (hval 0 22 v0 rfl rfl) h0
  obtain ⟨a1, l1, k1, L1, rfl, w1⟩ := open_slice_flat (ks := [.int .i64, .int .u64, .bool]) (bytes := 24) 8 Try.underlying25 (by kernel_rfl) (by kernel_rfl) (by decide) (by kernel_rfl) (hval 1 25 v1 rfl rfl) h1 (fun elems rest hd => by subst hd; exact sized_slice hsz (j := 1) (t := 25) (e := 34) rfl rfl Try.underlying25)
  clear hA0 hval0 hsz0
  refine (walk W a0 w0 a1 l1 k1 L1 w1).mono fun e W' ⟨he, bel⟩ => ?_
  subst he
  exact ⟨_, rfl, _, _, _, [], _, [], hW', trodAll_mk1 (shut_bool Try.underlying4 _), trodAll_below laidOut bel _ _ _ _ (by kernel_rfl) hAk, rfl, bel.frame _, fun h => by cases h⟩

theorem over : Rows.breakerBackRow.holds Try.pinned (OpenSpec.ofChange Rows.breakerBackSpec) :=
  OpenClaim.holds_of_wide 7 Try.f7 rfl rfl rfl rfl rfl rfl rfl ⟨rfl, rfl, rfl, rfl, rfl⟩ rfl rfl rfl rfl rfl (by kernel_rfl) Try.func7 (by kernel_rfl)
    (of_decide_eq_true (by kernel_rfl)) (by unfold Func.isWrapper; first | (rw [if_pos (by decide +kernel)]; kernel_rfl) | (rw [if_neg (by decide +kernel)]; exact ⟨rfl, rfl⟩))
    (fun os started H enc _ => lifted os started H enc)

theorem proved : Rows.BreakerBackSaid := over
#print axioms proved
end Go.Proofs.Ytnggcegoomhneaa.breakerBack
