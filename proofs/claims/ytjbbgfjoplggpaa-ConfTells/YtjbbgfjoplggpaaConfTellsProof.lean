/- What is proved: ConfTells of porpoiselaw08 answers true for every input, and leaves its arguments as they were; conditions: those of the given row alone. -/
import Derived.Test.YtjbbgfjoplggpaaKit
import Derived.Test.YtjbbgfjoplggpaaLaw08
import Derived.Test.YtjbbgfjoplggpaaRef08c
namespace Go.Proofs.Ytjbbgfjoplggpaa.confTells
open Go.ChangeShapes Go.WideShapes Go.ChangeAt Go.RowKit Go.Deep
open Go.ChangeMaps (open_string shut_string)
set_option linter.unusedVariables false

theorem own : ownKnob Try.prog.godebug = none := by kernel_rfl
theorem laidOut : laidOutB Try.prog = true := by kernel_rfl



set_option maxRecDepth 100000 in
set_option maxHeartbeats 2000000 in
theorem walk (w : World) (c0 : Array Value) (w0 : Flat [.int .i64, .int .i64, .int .i64, .int .i64, .int .i64, .int .i64, .int .u64, .int .u64, .int .i64, .int .i64, .int .u64, .int .i64, .int .u64, .int .u64, .int .i64, .int .i64] c0.toList) :
    Calls Try.prog 3 #[.agg c0] w fun e w' => e = .returned (.bool true) ∧ Below w.heap.size w w' := by
  obtain ⟨c, rfl, hc⟩ := cnf_flat w0
  obtain ⟨g, hg⟩ : ∃ g, w.heap.size = g := ⟨_, rfl⟩
  obtain ⟨fs, hu⟩ := undC
  obtain ⟨n, hn⟩ : ∃ n, c.bad = n := ⟨_, rfl⟩
  have HU := Lib.hid hu
  have HZ := Lib.hid (sizeC c)
  have HK := Lib.hid (fun v => check_any c v hc n hn)
  have HRK := Lib.hid (fun v => rcheck_any c v n hn)
  have HP := Lib.hid (fun v => put_any c v)
  have HRP := Lib.hid (fun v => rput_any c v)
  have HB := Lib.hid (fun v => bound_any c v hc)
  have HRB : Hid (n = 0 → ∀ v, Calls Try.prog 15 #[.agg (aggV c.vals)] v fun r w' => r = .returned (.int .u64 c.bound) ∧ Below v.heap.size v w') := Lib.hid (fun h v => rbound_any c v (Cnf.may_of (by rw [hn, h])))
  have HS := Lib.hid (fun v => sameF (Cnf.put_fits hc) v)
  obtain ⟨e, he⟩ : ∃ e, Cnf.errOf n = e := ⟨_, rfl⟩
  rw [he] at HK
  have HX : Hid ((n = 0 ∧ e = 0) ∨ (1 ≤ n ∧ e = 1)) := Lib.hid (by
    rw [← he]; unfold Cnf.errOf
    by_cases h : n = 0
    · simp [h]
    · simp [h]; omega)
  clear hu hn w0 he
  generalize c.bound = N at *
  generalize c.put.nums = pn at *
  generalize c.vals = cv at *
  go_enter Try.func3, Try.ntmps3
  go_wp2_with (refine wpList_box_agg rfl 24 _ rfl g hg cv rfl ?_; intro w1 h1 l1 s1)
  refine (awake_any _).mono ?_
  rintro r w2 ⟨rfl, b2⟩
  have h2 := kb_below h1 b2
  have B2 := Lib.hid (l1.trans (b2.mono (by omega : g ≤ w1.heap.size)))
  clear b2 h1 l1 s1
  go_wp2_with (refine wpList_load_agg rfl 24 _ rfl g rfl cv h2 _ HU.out rfl HZ.out ?_)
  refine (HK.out _).mono ?_
  rintro r w3 ⟨rfl, b3⟩
  have h3 := kb_below h2 b3
  have B3 := Lib.hid (B2.out.trans (b3.mono (by have := B2.out.size; omega)))
  clear b3 h2 B2 HK
  go_wp2_with (refine wpList_load_agg rfl 24 _ rfl g rfl cv h3 _ HU.out rfl HZ.out ?_)
  refine (HRK.out _).mono ?_
  rintro r w4 ⟨rfl, b4⟩
  have h4 := kb_below h3 b4
  have B4 := Lib.hid (B3.out.trans (b4.mono (by have := B3.out.size; omega)))
  clear b4 h3 B3 HRK
  have ld : ∀ p : Later w4, (Instr.loadAt 24 (.pointer (some ⟨g, 0, none⟩))).run Try.prog p.v = .ok (.agg (aggV cv)) p.v := fun p => run_loadAt_agg _ _ _ _ _ (p.heap h4) HU.out rfl HZ.out
  have hs := HS.out
  clear h4
  rcases HX.out with ⟨rfl, rfl⟩ | ⟨hn1, rfl⟩
  · have HRB' := Lib.hid (HRB.out rfl)
    go_wp2
    refine wp_region_later (by kernel_rfl) (by kernel_rfl) ?_
    repeat (first
      | (refine wpQuiet_load rfl 24 _ rfl g rfl (.agg (aggV cv)) ld ?_; simp only [Act.put, List.setIfInBounds_toArray, List.set_cons_zero, List.set_cons_succ])
      | go_big_quiet_step (first
        | (go_at_call 12; with_reducible exact Calls.later_of (HP.out _))
        | (go_at_call 13; with_reducible exact Calls.later_of (HRP.out _))
        | (go_at_call 14; with_reducible exact Calls.later_of (HB.out _))
        | (go_at_call 15; with_reducible exact Calls.later_of (HRB'.out _))))
    refine wpQuiet_nil ?_
    rintro _ ⟨⟨w10, b10⟩, rfl⟩
    go_wp2
    go_ret
    exact ⟨rfl, by subst hg; exact B4.out.trans (b10.mono B4.out.size)⟩
  · have hn1' : decide (0 < n) = true := by simp; omega
    have hn0 : ((n : Int) == 0) = false := by simp; omega
    go_wp2
    refine wp_region_later (by kernel_rfl) (by kernel_rfl) ?_
    repeat (first
      | (refine wpQuiet_load rfl 24 _ rfl g rfl (.agg (aggV cv)) ld ?_; simp only [Act.put, List.setIfInBounds_toArray, List.set_cons_zero, List.set_cons_succ])
      | go_big_quiet_step (first
        | (go_at_call 12; with_reducible exact Calls.later_of (HP.out _))
        | (go_at_call 13; with_reducible exact Calls.later_of (HRP.out _))))
    refine wpQuiet_nil ?_
    rintro _ ⟨⟨w10, b10⟩, rfl⟩
    go_wp2
    go_ret
    exact ⟨rfl, by subst hg; exact B4.out.trans (b10.mono B4.out.size)⟩

set_option maxRecDepth 100000 in
theorem lifted (os : Os) (started : os.Started) (H : Type) (enc : TypeId × Value → H) :
    ReturnsInHanded {} Try.checked os 3 .any (Rows.confTellsSpec.pre6 enc Try.prog Try.f3 Rows.confTellsRow.domain false) (Rows.confTellsSpec.post enc Try.prog Try.f3 false true false false) := by
  refine returnsInHanded_of_change_sized (C := Try.checked) own started (by kernel_rfl) Try.func3
    (ChangeSpec.witness6 (enc := enc) (C := Try.checked) false ⟨#[], #[.agg #[.int .i64 0, .int .i64 0, .int .i64 0, .int .i64 0, .int .i64 0, .int .i64 0, .int .u64 0, .int .u64 0, .int .i64 0, .int .i64 0, .int .u64 0, .int .i64 0, .int .u64 0, .int .u64 0, .int .i64 0, .int .i64 0]], []⟩ 8 (by kernel_rfl) (by kernel_rfl) (by kernel_rfl) (by kernel_rfl)) ?_
  intro W base args ds gs before hval0 hW hcnd hsz0 _
  have hval : ∀ (j : Nat) t v, Try.f3.params[j]? = some t → args[j]? = some v → Value.okWide Try.prog W .any base t v := hval0
  have hsz : (DataW.weightsEach Try.prog (Try.f3.params.toList ++ Rows.confTellsSpec.plain.varTypes Try.prog) (ds ++ gs)).all (· ≤ reachBytes) = true := hsz0
  have hW' := hW
  obtain ⟨p, q, hA0, hV, rfl, hfz, hnd⟩ := hW
  have hA : DataW.TrodAll enc Try.prog W 0 (fun _ => true) true Try.f3.params.toList args.toList ds p := hA0
  rw [Try.params3] at hA hval hsz
  have hAk := hA
  obtain ⟨v0, vs0, d0, ds0, p0, q0, hargs, rfl, rfl, h0, r0⟩ := trodAll_cons hA
  obtain ⟨rfl, rfl, rfl⟩ := trodAll_nil r0
  obtain rfl : args = #[v0] := by cases args; simp_all
  obtain ⟨rfl, rfl⟩ := trodVars_none hV
  obtain ⟨c0, rfl, w0⟩ := open_flat (ks := [.int .i64, .int .i64, .int .i64, .int .i64, .int .i64, .int .i64, .int .u64, .int .u64, .int .i64, .int .i64, .int .u64, .int .i64, .int .u64, .int .u64, .int .i64, .int .i64]) 8 (by kernel_rfl) (by kernel_rfl) (hval 0 24 v0 rfl rfl) h0
  clear hA0 hval0 hsz0
  refine (walk W c0 w0).mono fun e W' ⟨he, bel⟩ => ?_
  subst he
  exact ⟨_, rfl, _, _, _, [], _, [], hW', trodAll_mk1 (shut_bool Try.underlying4 _), trodAll_below laidOut bel _ _ _ _ (by kernel_rfl) hAk, rfl, bel.frame _, fun h => by cases h⟩

theorem over : Rows.confTellsRow.holds Try.pinned (OpenSpec.ofChange Rows.confTellsSpec) :=
  OpenClaim.holds_of_wide 3 Try.f3 rfl rfl rfl rfl rfl rfl rfl ⟨rfl, rfl, rfl, rfl, rfl⟩ rfl rfl rfl rfl rfl (by kernel_rfl) Try.func3 (by kernel_rfl)
    (of_decide_eq_true (by kernel_rfl)) (by unfold Func.isWrapper; first | (rw [if_pos (by decide +kernel)]; kernel_rfl) | (rw [if_neg (by decide +kernel)]; exact ⟨rfl, rfl⟩))
    (fun os started H enc _ => lifted os started H enc)

theorem proved : Rows.ConfTellsSaid := over
#print axioms proved
end Go.Proofs.Ytjbbgfjoplggpaa.confTells
