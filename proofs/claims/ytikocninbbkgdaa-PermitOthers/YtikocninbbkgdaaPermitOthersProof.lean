/- What is proved: PermitOthers of porpoiselaw05 answers true for every input, and leaves its arguments as they were; conditions: those of the given row alone. -/
import Derived.Test.YtikocninbbkgdaaKit
import Derived.Test.YtikocninbbkgdaaLaw05
namespace Go.Proofs.Ytikocninbbkgdaa.permitOthers
open Go.ChangeShapes Go.WideShapes Go.ChangeAt Go.RowKit Go.Deep
open Go.ChangeMaps (open_string shut_string)
set_option linter.unusedVariables false

theorem own : ownKnob Try.prog.godebug = none := by kernel_rfl
theorem laidOut : laidOutB Try.prog = true := by kernel_rfl

theorem Flat.three {c : Array Value} (h : Flat [.int .i64, .int .i64, .int .i64] c.toList) : ∃ x y z, c = #[.int .i64 x, .int .i64 y, .int .i64 z] ∧ (Lit.int .i64 x).wf = true ∧ (Lit.int .i64 y).wf = true ∧ (Lit.int .i64 z).wf = true := by
  obtain ⟨l⟩ := c
  cases l with
  | nil => exact h.elim
  | cons c0 l =>
    cases l with
    | nil => exact h.2.elim
    | cons c1 l =>
      cases l with
      | nil => exact h.2.2.elim
      | cons c2 l =>
        cases l with
        | nil =>
          obtain ⟨⟨x, rfl, u0⟩, ⟨y, rfl, u1⟩, ⟨z, rfl, u2⟩, _⟩ := h
          exact ⟨x, y, z, rfl, u0, u1, u2⟩
        | cons _ _ => exact h.2.2.2.elim
theorem step1_mem {most : Nat} {kd : Int} {h z : Hol} {L : List Hol} (hne : h ≠ z) : decide (z ∈ step1 most kd h L) = decide (z ∈ L) := by
  unfold step1 ins1
  split
  · split
    · simp [mem_insH, Ne.symm hne]
    · rfl
  · simp [mem_outH, Ne.symm hne]

set_option maxRecDepth 100000 in
set_option maxHeartbeats 2000000 in
theorem walk (w : World) (a0 : Option Addr) (l0 k0 : Nat) (L0 : List (List Value)) (w0 : SliceIn w [.int .i64, .int .i64, .int .i64] 24 a0 l0 k0 L0) (c1 : Array Value) (w1 : Flat [.int .i64, .int .i64, .int .i64] c1.toList) (c2 : Array Value) (w2 : Flat [.int .i64, .int .i64] c2.toList) :
    Calls Try.prog 7 #[.slice a0 l0 k0, .agg c1, .agg c2] w fun e w' => e = .returned (.bool true) ∧ Below w.heap.size w w' := by
  obtain ⟨kd, x, y, rfl, _, hx0, hy0⟩ := Flat.three w1
  have hx : wfH (x, y) := ⟨bounds_i64 hx0, bounds_i64 hy0⟩
  obtain ⟨p, q, rfl, hp0, hq0⟩ := w2.two
  have hp : wfH (p, q) := ⟨bounds_i64 hp0, bounds_i64 hq0⟩
  have W0 := Lib.hid w0
  clear w0 w1 w2 hx0 hy0 hp0 hq0
  have hb1 : Below w.heap.size w ((w.alloc (dobj kd x y)).alloc (robj (p, q))) := ((Below.refl _ _).alloc (Nat.le_refl _) _).alloc (by simp) _
  have hd1 : ((w.alloc (dobj kd x y)).alloc (robj (p, q))).heap[w.heap.size]? = some (dobj kd x y) := kb_alloc (heap_alloc_at w _) _
  have hd2 : ((w.alloc (dobj kd x y)).alloc (robj (p, q))).heap[w.heap.size + 1]? = some (robj (p, q)) := by
    have := heap_alloc_at (w.alloc (dobj kd x y)) (robj (p, q))
    rw [show (w.alloc (dobj kd x y)).heap.size = w.heap.size + 1 by simp] at this
    exact this
  generalize hW : (w.alloc (dobj kd x y)).alloc (robj (p, q)) = w1 at *
  have HB := Lib.hid hb1
  have HD := Lib.hid hd1
  have HE := Lib.hid hd2
  have W1 := Lib.hid (W0.out.later hb1)
  clear hb1 hd1 hd2
  go_enter Try.func7, Try.ntmps7
  go_wp2_with fail
  refine (awake_any w1).mono ?_
  rintro r wa ⟨rfl, hba⟩
  have HA := Lib.hid hba
  clear hba hW
  go_wp2_with fail
  refine (ran_any w1 a0 l0 k0 L0 wa W1.out HA.out).mono ?_
  rintro r w2 ⟨b, rfl, m, L, h2⟩
  have H2 := Lib.hid h2
  obtain ⟨_, d1, d2⟩ := dcells (kb_below HD.out h2.low)
  obtain ⟨e0, e1⟩ := rcells (kb_below HE.out h2.low)
  have heq := ref_eq x y p q hx hp
  clear h2
  by_cases hc : (x, y) = (p, q)
  · have hdc : decide ((x, y) = (p, q)) = true := by simp [hc]
    rw [hdc] at heq
    clear hc hdc
    go_wp2
    go_ret
    exact ⟨rfl, HB.out.trans (H2.out.low.mono HB.out.size)⟩
  · have hdc : decide ((x, y) = (p, q)) = false := by simp [hc]
    rw [hdc] at heq
    have HC := Lib.hid hc
    clear hc hdc
    go_wp2_with fail
    refine (made_any p q w2).mono ?_
    clear d1 d2 e0 e1 heq
    rintro r w3 ⟨rfl, hb⟩
    have H3 := Lib.hid (H2.out.below hb)
    clear hb
    go_wp2_with fail
    refine (holds_prm b m 4 L p q w3 H3.out.prm hp).mono ?_
    rintro r w4 ⟨rfl, hb⟩
    have H4 := Lib.hid (H3.out.below hb)
    obtain ⟨d0, d1, d2⟩ := dcells (kb_below HD.out H4.out.low)
    clear hb
    go_wp2_with fail
    refine (do_any w1 b m 4 kd x y L [] (.slice none 0 0) w4 H4.out (OwnR.nil _ _ _) rise_nil (by simp) (by simp) hx).mono ?_
    clear d0 d1 d2
    rintro r w5 ⟨v', t, rfl, _, h5, _⟩
    have H5 := Lib.hid h5
    obtain ⟨e0, e1⟩ := rcells (kb_below HE.out h5.low)
    clear h5
    go_wp2_with fail
    refine (made_any p q w5).mono ?_
    clear e0 e1
    rintro r w6 ⟨rfl, hb⟩
    have H6 := Lib.hid (H5.out.below hb)
    clear hb
    have hh := holds_prm b m 4 (step1 4 kd (x, y) L) p q w6 H6.out.prm hp
    rw [step1_mem HC.out] at hh
    generalize decide ((p, q) ∈ L) = t' at *
    go_wp2_with fail
    refine hh.mono ?_
    clear hh
    rintro r w7 ⟨rfl, hb⟩
    have H7 := Lib.hid (H6.out.below hb)
    clear hb
    go_wp2
    go_ret
    exact ⟨rfl, HB.out.trans (H7.out.low.mono HB.out.size)⟩

set_option maxRecDepth 100000 in
theorem lifted (os : Os) (started : os.Started) (H : Type) (enc : TypeId × Value → H) :
    ReturnsInHanded {} Try.checked os 7 .any (Rows.permitOthersSpec.pre6 enc Try.prog Try.f7 Rows.permitOthersRow.domain false) (Rows.permitOthersSpec.post enc Try.prog Try.f7 false true false false) := by
  refine returnsInHanded_of_change_sized (C := Try.checked) own started (by kernel_rfl) Try.func7
    (ChangeSpec.witness6 (enc := enc) (C := Try.checked) false ⟨#[], #[.slice none 0 0, .agg #[.int .i64 0, .int .i64 0, .int .i64 0], .agg #[.int .i64 0, .int .i64 0]], []⟩ 8 (by kernel_rfl) (by kernel_rfl) (by kernel_rfl) (by kernel_rfl)) ?_
  intro W base args ds gs before hval0 hW hcnd hsz0 _
  have hval : ∀ (j : Nat) t v, Try.f7.params[j]? = some t → args[j]? = some v → Value.okWide Try.prog W .any base t v := hval0
  have hsz : (DataW.weightsEach Try.prog (Try.f7.params.toList ++ Rows.permitOthersSpec.plain.varTypes Try.prog) (ds ++ gs)).all (· ≤ reachBytes) = true := hsz0
  have hW' := hW
  obtain ⟨p, q, hA0, hV, rfl, hfz, hnd⟩ := hW
  have hA : DataW.TrodAll enc Try.prog W 0 (fun _ => true) true Try.f7.params.toList args.toList ds p := hA0
  rw [Try.params7] at hA hval hsz
  have hAk := hA
  obtain ⟨v0, vs0, d0, ds0, p0, q0, hargs, rfl, rfl, h0, r0⟩ := trodAll_cons hA
  obtain ⟨v1, vs1, d1, ds1, p1, q1, rfl, rfl, rfl, h1, r1⟩ := trodAll_cons r0
  obtain ⟨v2, vs2, d2, ds2, p2, q2, rfl, rfl, rfl, h2, r2⟩ := trodAll_cons r1
  obtain ⟨rfl, rfl, rfl⟩ := trodAll_nil r2
  obtain rfl : args = #[v0, v1, v2] := by cases args; simp_all
  obtain ⟨rfl, rfl⟩ := trodVars_none hV
  obtain ⟨a0, l0, k0, L0, rfl, w0⟩ := open_slice_flat (ks := [.int .i64, .int .i64, .int .i64]) (bytes := 24) 8 Try.underlying22 (by kernel_rfl) (by kernel_rfl) (by decide) (by kernel_rfl) (hval 0 22 v0 rfl rfl) h0 (fun elems rest hd => by subst hd; exact sized_slice hsz (j := 0) (t := 22) (e := 32) rfl rfl Try.underlying22)
  obtain ⟨c1, rfl, w1⟩ := open_flat (ks := [.int .i64, .int .i64, .int .i64]) 8 (by kernel_rfl) (by kernel_rfl) (hval 1 32 v1 rfl rfl) h1
  obtain ⟨c2, rfl, w2⟩ := open_flat (ks := [.int .i64, .int .i64]) 8 (by kernel_rfl) (by kernel_rfl) (hval 2 24 v2 rfl rfl) h2
  clear hA0 hval0 hsz0
  refine (walk W a0 l0 k0 L0 w0 c1 w1 c2 w2).mono fun e W' ⟨he, bel⟩ => ?_
  subst he
  exact ⟨_, rfl, _, _, _, [], _, [], hW', trodAll_mk1 (shut_bool Try.underlying4 _), trodAll_below laidOut bel _ _ _ _ (by kernel_rfl) hAk, rfl, bel.frame _, fun h => by cases h⟩

theorem over : Rows.permitOthersRow.holds Try.pinned (OpenSpec.ofChange Rows.permitOthersSpec) :=
  OpenClaim.holds_of_wide 7 Try.f7 rfl rfl rfl rfl rfl rfl rfl ⟨rfl, rfl, rfl, rfl, rfl⟩ rfl rfl rfl rfl rfl (by kernel_rfl) Try.func7 (by kernel_rfl)
    (of_decide_eq_true (by kernel_rfl)) (by unfold Func.isWrapper; first | (rw [if_pos (by decide +kernel)]; kernel_rfl) | (rw [if_neg (by decide +kernel)]; exact ⟨rfl, rfl⟩))
    (fun os started H enc _ => lifted os started H enc)

theorem proved : Rows.PermitOthersSaid := over
#print axioms proved
end Go.Proofs.Ytikocninbbkgdaa.permitOthers
