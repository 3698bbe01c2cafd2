/- What is proved: WheelNobody of porpoiselaw03 answers true for every input, and leaves its arguments as they were; conditions: those of the given row alone. -/
import Derived.Test.YtgpebbopggmgbaaKit
import Derived.Test.YtgpebbopggmgbaaLaw03
namespace Go.Proofs.Ytgpebbopggmgbaa.wheelNobody
open Go.ChangeShapes Go.WideShapes Go.ChangeAt Go.RowKit Go.Deep
open Go.ChangeMaps (open_string shut_string)
set_option linter.unusedVariables false

theorem own : ownKnob Try.prog.godebug = none := by kernel_rfl
theorem laidOut : laidOutB Try.prog = true := by kernel_rfl

theorem kb_below {w w' : World} {j : Nat} {o : Obj} (h : w.heap[j]? = some o) (hb : Below w.heap.size w w') : w'.heap[j]? = some o := (hb.block j (heap_lt h)).trans h
theorem open_timer {c : Array Value} (h : Flat [.int .i64, .int .i64] c.toList) : ∃ k i, c = #[.int .i64 k, .int .i64 i] ∧ wf64 k ∧ wf64 i := by
  obtain ⟨l⟩ := c
  cases l with
  | nil => exact h.elim
  | cons x l =>
    cases l with
    | nil => exact h.2.elim
    | cons y l =>
      cases l with
      | nil =>
        obtain ⟨⟨k, rfl, hk⟩, ⟨i, rfl, hi⟩, _⟩ := h
        exact ⟨k, i, rfl, bounds_i64 hk, bounds_i64 hi⟩
      | cons z l => exact h.2.2.elim

set_option maxRecDepth 100000 in
set_option maxHeartbeats 2000000 in
theorem walk (w : World) (a0 : Int) (w0 : (Lit.int .u64 a0).wf = true) (a1 : Int) (w1 : (Lit.int .u64 a1).wf = true) (c2 : Array Value) (w2 : Flat [.int .i64, .int .i64] c2.toList) :
    Calls Try.prog 8 #[.int .u64 a0, .int .u64 a1, .agg c2] w fun e w' => e = .returned (.bool true) ∧ Below w.heap.size w w' := by
  have b0 := wf_u64 w0
  have b1 := wf_u64 w1
  obtain ⟨k, i, rfl, hk', hi'⟩ := open_timer w2
  clear w0 w1 w2
  have kb0 := heap_alloc_at w (tobj k i)
  have ow0 := below_alloc w (tobj k i)
  go_enter Try.func8, Try.ntmps8
  go_wp2_with fail
  refine (awake_any _).mono ?_
  rintro e wa ⟨rfl, hba⟩
  have kba := kb_below kb0 hba
  have owa := ow0.trans (hba.mono ow0.size)
  obtain ⟨ka0, ka1⟩ := cells2 kba
  clear hba kb0 ow0
  go_wp2_with fail
  refine (due_nil k i wa).mono ?_
  rintro e wb ⟨hbb, rfl⟩
  have kbb := kb_below kba hbb
  have owb := owa.trans (hbb.mono owa.size)
  obtain ⟨kb0, kb1⟩ := cells2 kbb
  clear hbb kba owa ka0 ka1
  go_wp2_with fail
  refine (next_nil wb).mono ?_
  rintro e _ ⟨rfl, rfl⟩
  go_wp2_with fail
  refine (step_nil a1 wb).mono ?_
  rintro e wc ⟨hbc, rfl⟩
  have kbc := kb_below (kb_below kbb hbc) (below_alloc wc (tobj 0 0))
  have owc := (owb.trans (hbc.mono owb.size)).trans ((below_alloc wc (tobj 0 0)).mono (owb.trans (hbc.mono owb.size)).size)
  obtain ⟨kc0, kc1⟩ := cells2 kbc
  clear hbc kbb owb kb0 kb1
  go_wp2_with fail
  refine (put_nil k i a1 _).mono ?_
  rintro e wd ⟨hbd, rfl⟩
  have kbd := kb_below kbc hbd
  have owd := owc.trans (hbd.mono owc.size)
  obtain ⟨kd0, kd1⟩ := cells2 kbd
  clear hbd kbc owc kc0 kc1
  go_wp2_with fail
  refine (cancel_nil k i wd).mono ?_
  rintro e we ⟨hbe, rfl⟩
  have kbe := kb_below kbd hbe
  have owe := owd.trans (hbe.mono owd.size)
  obtain ⟨ke0, ke1⟩ := cells2 kbe
  clear hbe kbd owd kd0 kd1
  go_wp2_with (first | (go_at_call 17; refine (now_nil _).mono ?_; rintro e _ ⟨rfl, rfl⟩) | (go_at_call 18; refine (len_nil _).mono ?_; rintro e _ ⟨rfl, rfl⟩))
  refine (own_new w a0 we b0.1 b0.2 owe).mono ?_
  rintro e wf ⟨b, m, rfl, of, hbf, _, _⟩
  have kbf := kb_below kbe hbf
  obtain ⟨kf0, kf1⟩ := cells2 kbf
  have OF := Lib.hid of
  clear hbf kbe owe ke0 ke1 of
  go_wp2_with fail
  refine (own_put w b m a0 k i a1 [] wf OF.out hk' hi' b1.1 b1.2 (by simp) (by simp)).mono ?_
  rintro e wg ⟨rfl, hfg, g, _, og⟩
  have kbg := Whl.other OF.out.whl hfg kbf (by decide) (by decide)
  obtain ⟨kg0, kg1⟩ := cells2 kbg
  have hmx : (if a1 < a0 then a0 else a1) = (if a0 < a1 then a1 else a0) := by split <;> split <;> omega
  rw [hmx] at og
  generalize hv : (if a0 < a1 then a1 else a0) = v at og
  have OG := Lib.hid og
  have HV := Lib.hid hv
  clear hfg kbf kf0 kf1 og hmx
  go_wp2_with fail
  refine (put_there b m a0 k i a1 _ wg OG.out.whl hk' hi' _ (mem_ins.2 (.inl rfl)) rfl rfl).mono ?_
  rintro e wh ⟨hbh, rfl, _⟩
  have kbh := kb_below kbg hbh
  obtain ⟨kh0, kh1⟩ := cells2 kbh
  have OH := Lib.hid (OG.out.below hbh)
  clear hbh kbg kg0 kg1
  go_wp2_with fail
  refine (due_whl b m a0 k i _ wh OH.out.whl hk' hi').mono ?_
  rintro e wi ⟨hbi, hd⟩
  have OI := Lib.hid (OH.out.below hbi)
  have hre : e = .returned (.tuple #[.int .u64 v, .bool true]) := by
    rcases hd with ⟨x, hx, _, _, rfl⟩ | ⟨hn, _⟩
    · rcases mem_ins.1 hx with rfl | hx
      · rfl
      · cases hx
    · exact absurd ⟨rfl, rfl⟩ (hn _ (mem_ins.2 (.inl rfl)))
  subst hre
  clear hbi hd kbh kh0 kh1
  go_wp2_with (first | (go_at_call 18; refine (len_whl b m a0 _ _ OI.out.whl).mono ?_; rintro e _ ⟨rfl, rfl⟩))
  go_ret
  exact ⟨ret_bool (by simp [ins]), OI.out.low⟩

set_option maxRecDepth 100000 in
theorem lifted (os : Os) (started : os.Started) (H : Type) (enc : TypeId × Value → H) :
    ReturnsInHanded {} Try.checked os 8 .any (Rows.wheelNobodySpec.pre6 enc Try.prog Try.f8 Rows.wheelNobodyRow.domain false) (Rows.wheelNobodySpec.post enc Try.prog Try.f8 false true false false) := by
  refine returnsInHanded_of_change_sized (C := Try.checked) own started (by kernel_rfl) Try.func8
    (ChangeSpec.witness6 (enc := enc) (C := Try.checked) false ⟨#[], #[.int .u64 0, .int .u64 0, .agg #[.int .i64 0, .int .i64 0]], []⟩ 8 (by kernel_rfl) (by kernel_rfl) (by kernel_rfl) (by kernel_rfl)) ?_
  intro W base args ds gs before hval0 hW hcnd hsz0 _
  have hval : ∀ (j : Nat) t v, Try.f8.params[j]? = some t → args[j]? = some v → Value.okWide Try.prog W .any base t v := hval0
  have hsz : (DataW.weightsEach Try.prog (Try.f8.params.toList ++ Rows.wheelNobodySpec.plain.varTypes Try.prog) (ds ++ gs)).all (· ≤ reachBytes) = true := hsz0
  have hW' := hW
  obtain ⟨p, q, hA0, hV, rfl, hfz, hnd⟩ := hW
  have hA : DataW.TrodAll enc Try.prog W 0 (fun _ => true) true Try.f8.params.toList args.toList ds p := hA0
  rw [Try.params8] at hA hval hsz
  have hAk := hA
  obtain ⟨v0, vs0, d0, ds0, p0, q0, hargs, rfl, rfl, h0, r0⟩ := trodAll_cons hA
  obtain ⟨v1, vs1, d1, ds1, p1, q1, rfl, rfl, rfl, h1, r1⟩ := trodAll_cons r0
  obtain ⟨v2, vs2, d2, ds2, p2, q2, rfl, rfl, rfl, h2, r2⟩ := trodAll_cons r1
  obtain ⟨rfl, rfl, rfl⟩ := trodAll_nil r2
  obtain rfl : args = #[v0, v1, v2] := by cases args; simp_all
  obtain ⟨rfl, rfl⟩ := trodVars_none hV
  obtain ⟨a0, rfl, rfl, rfl, w0⟩ := open_int Try.underlying22 (hval 0 22 v0 rfl rfl) h0
  obtain ⟨a1, rfl, rfl, rfl, w1⟩ := open_int Try.underlying22 (hval 1 22 v1 rfl rfl) h1
  obtain ⟨c2, rfl, w2⟩ := open_flat (ks := [.int .i64, .int .i64]) 8 (by kernel_rfl) (by kernel_rfl) (hval 2 25 v2 rfl rfl) h2
  clear hA0 hval0 hsz0
  refine (walk W a0 w0 a1 w1 c2 w2).mono fun e W' ⟨he, bel⟩ => ?_
  subst he
  exact ⟨_, rfl, _, _, _, [], _, [], hW', trodAll_mk1 (shut_bool Try.underlying4 _), trodAll_below laidOut bel _ _ _ _ (by kernel_rfl) hAk, rfl, bel.frame _, fun h => by cases h⟩

theorem over : Rows.wheelNobodyRow.holds Try.pinned (OpenSpec.ofChange Rows.wheelNobodySpec) :=
  OpenClaim.holds_of_wide 8 Try.f8 rfl rfl rfl rfl rfl rfl rfl ⟨rfl, rfl, rfl, rfl, rfl⟩ rfl rfl rfl rfl rfl (by kernel_rfl) Try.func8 (by kernel_rfl)
    (of_decide_eq_true (by kernel_rfl)) (by unfold Func.isWrapper; first | (rw [if_pos (by decide +kernel)]; kernel_rfl) | (rw [if_neg (by decide +kernel)]; exact ⟨rfl, rfl⟩))
    (fun os started H enc _ => lifted os started H enc)

theorem proved : Rows.WheelNobodySaid := over
#print axioms proved
end Go.Proofs.Ytgpebbopggmgbaa.wheelNobody
