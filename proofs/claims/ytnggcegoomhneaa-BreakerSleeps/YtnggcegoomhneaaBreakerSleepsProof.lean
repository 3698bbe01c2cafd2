/- What is proved: BreakerSleeps of porpoiselaw09 answers true for every input, and leaves its arguments as they were; conditions: those of the given row alone. -/
import Derived.Test.YtnggcegoomhneaaKit
import Derived.Test.YtnggcegoomhneaaLaw09
namespace Go.Proofs.Ytnggcegoomhneaa.breakerSleeps
open Go.ChangeShapes Go.WideShapes Go.ChangeAt Go.RowKit Go.Deep
open Go.ChangeMaps (open_string shut_string)
set_option linter.unusedVariables false

theorem own : ownKnob Try.prog.godebug = none := by kernel_rfl
theorem laidOut : laidOutB Try.prog = true := by kernel_rfl

theorem flat3 {c : Array Value} (h : Flat [.int .u64, .int .u64, .int .u64] c.toList) : ∃ x y z, c = #[.int .u64 x, .int .u64 y, .int .u64 z] ∧ u64B x ∧ u64B y ∧ u64B z := by
  obtain ⟨l⟩ := c
  obtain _ | ⟨v0, l⟩ := l
  · exact h.elim
  obtain ⟨⟨n0, rfl, u0⟩, h⟩ := h
  obtain _ | ⟨v1, l⟩ := l
  · exact h.elim
  obtain ⟨⟨n1, rfl, u1⟩, h⟩ := h
  obtain _ | ⟨v2, l⟩ := l
  · exact h.elim
  obtain ⟨⟨n2, rfl, u2⟩, h⟩ := h
  obtain _ | ⟨v, l⟩ := l
  · exact ⟨n0, n1, n2, rfl, wf_u64 u0, wf_u64 u1, wf_u64 u2⟩
  · exact h.elim
theorem asked_yes {s t now : Int} (h : addS t s ≤ now) : (BK.mk s 0 2 t).asked now = 2 := by simp [BK.asked, BK.wakes, h]
theorem ask_yes {s t now : Int} (h : addS t s ≤ now) : (BK.mk s 0 2 t).ask now = ⟨s, 0, 3, t⟩ := by simp [BK.ask, BK.wakes, h]
theorem asked_no {s t now : Int} (h : now < addS t s) : (BK.mk s 0 2 t).asked now = 3 := by
  have h' : ¬ addS t s ≤ now := by omega
  simp [BK.asked, BK.wakes, h']
theorem ask_no {s t now : Int} (h : now < addS t s) : (BK.mk s 0 2 t).ask now = ⟨s, 0, 2, t⟩ := by
  have h' : ¬ addS t s ≤ now := by omega
  simp [BK.ask, BK.wakes, h']
theorem le_addS {a b : Int} (ha : u64B a) (hb : u64B b) : a ≤ addS a b ∧ u64B (addS a b) := by
  have h1 := ha.1
  have h2 := ha.2
  have h3 := hb.1
  unfold u64B addS
  split <;> omega

set_option maxRecDepth 100000 in
set_option maxHeartbeats 2000000 in
theorem walk (w : World) (c0 : Array Value) (w0 : Flat [.int .u64, .int .u64, .int .u64] c0.toList) (a1 : Bool) :
    Calls Try.prog 6 #[.agg c0, .bool a1] w fun e w' => e = .returned (.bool true) ∧ Below w.heap.size w w' := by
  obtain ⟨t, s, m, rfl, ht, hs, hm⟩ := flat3 w0
  obtain ⟨g, hg⟩ : ∃ g, w.heap.size = g := ⟨_, rfl⟩
  obtain ⟨e, he⟩ : ∃ e, addS t s = e := ⟨_, rfl⟩
  obtain ⟨le, be⟩ := le_addS ht hs
  rw [he] at le be
  obtain ⟨l, hl⟩ : ∃ l, addS e m = l := ⟨_, rfl⟩
  obtain ⟨_, bl⟩ := le_addS be hm
  rw [hl] at bl
  obtain ⟨n, hn⟩ : ∃ n, addS l s = n := ⟨_, rfl⟩
  obtain ⟨ln, bn⟩ := le_addS bl hs
  rw [hn] at ln bn
  have A1 := Lib.hid (fun v => radd_any t s v ht.1 hs.1 ht.2 hs.2)
  have A2 := Lib.hid (fun v => radd_any e m v be.1 hm.1 be.2 hm.2)
  have A3 := Lib.hid (fun v => radd_any l s v bl.1 hs.1 bl.2 hs.2)
  rw [he] at A1
  rw [hl] at A2
  rw [hn] at A3
  have HE := Lib.hid he
  have HN := Lib.hid hn
  have HT := Lib.hid ht
  have HS := Lib.hid hs
  have BE := Lib.hid be
  have BL := Lib.hid bl
  have BN := Lib.hid bn
  have e0 := be.1
  have e1 := be.2
  have t0 := ht.1
  clear w0 he hl hn ht hs hm be bl bn
  go_enter Try.func6, Try.ntmps6
  go_wp2_with (first
    | (refine wpList_box_agg rfl 49 _ rfl g hg [.int .u64 t, .int .u64 s, .int .u64 m] rfl ?_; intro w1 h1 l1 t1)
    | fail)
  refine (awake_any _).mono ?_
  rintro r wa ⟨rfl, hba⟩
  have ha := kb_below h1 hba
  have LA : Hid (Below w.heap.size w wa) := Lib.hid (by rw [hg]; exact l1.trans (hba.mono (by omega)))
  have q0 : wa.cell? ⟨g, 0, none⟩ = some (.int .u64 t) := vobj_cell ha rfl
  have q1 : wa.cell? ⟨g, 1, none⟩ = some (.int .u64 s) := vobj_cell ha rfl
  have q2 : wa.cell? ⟨g, 2, none⟩ = some (.int .u64 m) := vobj_cell ha rfl
  clear h1 l1 hba ha
  go_wp2_with fail
  refine (conf_any s 0 wa (.inl rfl)).mono ?_
  rintro r wb ⟨rfl, hb⟩
  have LB := Lib.hid (LA.out.trans (hb.mono LA.out.size))
  clear hb q0 q1 q2 LA
  go_wp2_with fail
  refine (ob_new w wb (confC s 0) (confC_fits HS.out (by omega)) LB.out).mono ?_
  rintro r w2 ⟨b, rfl, _, h2, _⟩
  have H2 : Hid (OwB w w2 b ⟨s, 0, 1, 0⟩) := Lib.hid h2
  clear h2 LB
  go_wp2_with fail
  refine (ob_trip w b t _ w2 H2.out HT.out true ⟨s, 0, 2, t⟩ rfl rfl).mono ?_
  rintro r w3 ⟨rfl, h3, _⟩
  have H3 := Lib.hid h3
  clear h3 H2
  go_wp2_with fail
  refine (A1.out w3).mono ?_
  rintro r w4 ⟨rfl, rfl⟩
  by_cases hte : t < e
  have N1 : Hid (t < addS t s) := Lib.hid (by rw [HE.out]; omega)
  have N2 : Hid (e - 1 < addS t s) := Lib.hid (by rw [HE.out]; omega)
  have BE1 : Hid (u64B (e - 1)) := Lib.hid ⟨by omega, by omega⟩
  go_wp2_with fail
  refine (ob_ask w b t _ w3 H3.out HT.out 3 ⟨s, 0, 2, t⟩ (asked_no N1.out) (ask_no N1.out)).mono ?_
  rintro r w4 ⟨rfl, h4, _⟩
  have H4 := Lib.hid h4
  clear h4 H3
  go_wp2_with fail
  refine (ob_ask w b (e - 1) _ w4 H4.out BE1.out 3 ⟨s, 0, 2, t⟩ (asked_no N2.out) (ask_no N2.out)).mono ?_
  rintro r w5 ⟨rfl, h5, _⟩
  have H5 := Lib.hid h5
  clear h5 H4
  rotate_left
  generalize w3 = w5 at *
  have H5 := H3
  clear H3
  all_goals
    go_wp2_with fail
    refine (ob_ask w b e _ w5 H5.out BE.out 2 ⟨s, 0, 3, t⟩ (asked_yes (by rw [HE.out]; exact Int.le_refl _)) (ask_yes (by rw [HE.out]; exact Int.le_refl _))).mono ?_
    rintro r w6 ⟨rfl, h6, _⟩
    have H6 := Lib.hid h6
    clear h6 H5
    go_wp2_with fail
    refine (A2.out w6).mono ?_
    rintro r wx ⟨rfl, rfl⟩
    cases a1 with
    | true =>
      go_wp2_with fail
      refine (ob_done w b l true _ w6 H6.out BL.out true ⟨s, 0, 1, t⟩ rfl rfl).mono ?_
      rintro r w7 ⟨rfl, h7, _⟩
      have H7 := Lib.hid h7
      clear h7 H6
      go_wp2_with fail
      refine (A3.out w7).mono ?_
      rintro r wx ⟨rfl, rfl⟩
      go_wp2_with fail
      refine (ob_ask w b l _ w7 H7.out BL.out 1 ⟨s, 0, 1, t⟩ rfl rfl).mono ?_
      rintro r w8 ⟨rfl, h8, _⟩
      have H8 := Lib.hid h8
      clear h8 H7
      go_wp2_with fail
      refine (ob_ask w b 0 _ w8 H8.out ⟨by omega, by omega⟩ 1 ⟨s, 0, 1, t⟩ rfl rfl).mono ?_
      rintro r w9 ⟨rfl, h9, _⟩
      have H9 := Lib.hid h9
      clear h9 H8
      go_wp2
      go_ret
      exact ⟨rfl, H9.out.low⟩
    | false =>
      go_wp2_with fail
      refine (ob_done w b l false _ w6 H6.out BL.out true ⟨s, 0, 2, l⟩ rfl rfl).mono ?_
      rintro r w7 ⟨rfl, h7, _⟩
      have H7 := Lib.hid h7
      clear h7 H6
      go_wp2_with fail
      refine (A3.out w7).mono ?_
      rintro r wx ⟨rfl, rfl⟩
      by_cases hln : l = n
      · have hln' : (l == n) = true := by simp [hln]
        clear hln
        go_wp2_with fail
        refine (ob_since w b _ w7 H7.out l rfl).mono ?_
        rintro r wx ⟨rfl, rfl⟩
        go_wp2_with fail
        refine (ob_ask w b n _ w7 H7.out BN.out 2 ⟨s, 0, 3, l⟩ (asked_yes (by rw [HN.out]; exact Int.le_refl _)) (ask_yes (by rw [HN.out]; exact Int.le_refl _))).mono ?_
        rintro r w9 ⟨rfl, h9, _⟩
        have H9 := Lib.hid h9
        clear h9 H7
        go_wp2
        go_ret
        exact ⟨rfl, H9.out.low⟩
      · have hln' : (l == n) = false := by simp [hln]
        have N3 : Hid (l < addS l s) := Lib.hid (by rw [HN.out]; omega)
        clear hln
        go_wp2_with fail
        refine (ob_ask w b l _ w7 H7.out BL.out 3 ⟨s, 0, 2, l⟩ (asked_no N3.out) (ask_no N3.out)).mono ?_
        rintro r w8 ⟨rfl, h8, _⟩
        have H8 := Lib.hid h8
        clear h8 H7
        go_wp2_with fail
        refine (ob_since w b _ w8 H8.out l rfl).mono ?_
        rintro r wx ⟨rfl, rfl⟩
        go_wp2_with fail
        refine (ob_ask w b n _ w8 H8.out BN.out 2 ⟨s, 0, 3, l⟩ (asked_yes (by rw [HN.out]; exact Int.le_refl _)) (ask_yes (by rw [HN.out]; exact Int.le_refl _))).mono ?_
        rintro r w9 ⟨rfl, h9, _⟩
        have H9 := Lib.hid h9
        clear h9 H8
        go_wp2
        go_ret
        exact ⟨rfl, H9.out.low⟩

set_option maxRecDepth 100000 in
theorem lifted (os : Os) (started : os.Started) (H : Type) (enc : TypeId × Value → H) :
    ReturnsInHanded {} Try.checked os 6 .any (Rows.breakerSleepsSpec.pre6 enc Try.prog Try.f6 Rows.breakerSleepsRow.domain false) (Rows.breakerSleepsSpec.post enc Try.prog Try.f6 false true false false) := by
  refine returnsInHanded_of_change_sized (C := Try.checked) own started (by kernel_rfl) Try.func6
    (ChangeSpec.witness6 (enc := enc) (C := Try.checked) false ⟨#[], #[.agg #[.int .u64 0, .int .u64 0, .int .u64 0], .bool false], []⟩ 8 (by kernel_rfl) (by kernel_rfl) (by kernel_rfl) (by kernel_rfl)) ?_
  intro W base args ds gs before hval0 hW hcnd hsz0 _
  have hval : ∀ (j : Nat) t v, Try.f6.params[j]? = some t → args[j]? = some v → Value.okWide Try.prog W .any base t v := hval0
  have hsz : (DataW.weightsEach Try.prog (Try.f6.params.toList ++ Rows.breakerSleepsSpec.plain.varTypes Try.prog) (ds ++ gs)).all (· ≤ reachBytes) = true := hsz0
  have hW' := hW
  obtain ⟨p, q, hA0, hV, rfl, hfz, hnd⟩ := hW
  have hA : DataW.TrodAll enc Try.prog W 0 (fun _ => true) true Try.f6.params.toList args.toList ds p := hA0
  rw [Try.params6] at hA hval hsz
  have hAk := hA
  obtain ⟨v0, vs0, d0, ds0, p0, q0, hargs, rfl, rfl, h0, r0⟩ := trodAll_cons hA
  obtain ⟨v1, vs1, d1, ds1, p1, q1, rfl, rfl, rfl, h1, r1⟩ := trodAll_cons r0
  obtain ⟨rfl, rfl, rfl⟩ := trodAll_nil r1
  obtain rfl : args = #[v0, v1] := by cases args; simp_all
  obtain ⟨rfl, rfl⟩ := trodVars_none hV
  obtain ⟨c0, rfl, w0⟩ := open_flat (ks := [.int .u64, .int .u64, .int .u64]) 8 (by kernel_rfl) (by kernel_rfl) (hval 0 49 v0 rfl rfl) h0
  obtain ⟨a1, rfl, rfl, rfl⟩ := open_bool Try.underlying4 (hval 1 4 v1 rfl rfl) h1
  clear hA0 hval0 hsz0
  refine (walk W c0 w0 a1).mono fun e W' ⟨he, bel⟩ => ?_
  subst he
  exact ⟨_, rfl, _, _, _, [], _, [], hW', trodAll_mk1 (shut_bool Try.underlying4 _), trodAll_below laidOut bel _ _ _ _ (by kernel_rfl) hAk, rfl, bel.frame _, fun h => by cases h⟩

theorem over : Rows.breakerSleepsRow.holds Try.pinned (OpenSpec.ofChange Rows.breakerSleepsSpec) :=
  OpenClaim.holds_of_wide 6 Try.f6 rfl rfl rfl rfl rfl rfl rfl ⟨rfl, rfl, rfl, rfl, rfl⟩ rfl rfl rfl rfl rfl (by kernel_rfl) Try.func6 (by kernel_rfl)
    (of_decide_eq_true (by kernel_rfl)) (by unfold Func.isWrapper; first | (rw [if_pos (by decide +kernel)]; kernel_rfl) | (rw [if_neg (by decide +kernel)]; exact ⟨rfl, rfl⟩))
    (fun os started H enc _ => lifted os started H enc)

theorem proved : Rows.BreakerSleepsSaid := over
#print axioms proved
end Go.Proofs.Ytnggcegoomhneaa.breakerSleeps
