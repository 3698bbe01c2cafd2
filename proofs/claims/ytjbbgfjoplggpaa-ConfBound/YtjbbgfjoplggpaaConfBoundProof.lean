/- What is proved: ConfBound of porpoiselaw08 answers true for every input, and leaves its arguments as they were; conditions: those of the given row alone. -/
import Derived.Test.YtjbbgfjoplggpaaKit
import Derived.Test.YtjbbgfjoplggpaaLaw08
namespace Go.Proofs.Ytjbbgfjoplggpaa.confBound
open Go.ChangeShapes Go.WideShapes Go.ChangeAt Go.RowKit Go.Deep
open Go.ChangeMaps (open_string shut_string)
set_option linter.unusedVariables false

theorem own : ownKnob Try.prog.godebug = none := by kernel_rfl
theorem laidOut : laidOutB Try.prog = true := by kernel_rfl

open Cnf
def later (c : Cnf) (m : Int) : Cnf := { c with timeout := c.timeout + m }
def none0 (c : Cnf) : Cnf := { c with chain := 0 }
theorem later_fits {c : Cnf} (h : c.Fits) {m : Int} (h0 : 0 ≤ c.timeout + m) (h1 : c.timeout + m ≤ 18446744073709551615) : (later c m).Fits :=
  ⟨h.mode, h.pool, h.queue, h.sem, h.fbMax, h.chain, ⟨h0, h1⟩, h.fbTimeout, h.volume, h.percent, h.sleep, h.buckets, h.width, h.window, h.batch, h.force⟩
theorem none_fits {c : Cnf} (h : c.Fits) : (none0 c).Fits :=
  ⟨h.mode, h.pool, h.queue, h.sem, h.fbMax, ⟨by simp [none0], by simp [none0]⟩, h.timeout, h.fbTimeout, h.volume, h.percent, h.sleep, h.buckets, h.width, h.window, h.batch, h.force⟩

set_option maxRecDepth 100000 in
set_option maxHeartbeats 2000000 in
theorem walk (w : World) (c0 : Array Value) (w0 : Flat [.int .i64, .int .i64, .int .i64, .int .i64, .int .i64, .int .i64, .int .u64, .int .u64, .int .i64, .int .i64, .int .u64, .int .i64, .int .u64, .int .u64, .int .i64, .int .i64] c0.toList) (a1 : Int) (w1 : (Lit.int .u32 a1).wf = true) :
    Calls Try.prog 7 #[.agg c0, .int .u32 a1] w fun e w' => e = .returned (.bool true) ∧ Below w.heap.size w w' := by
  obtain ⟨c, rfl, hc⟩ := cnf_flat w0
  have bm := bounds_u32 w1
  obtain ⟨g, hg⟩ : ∃ g, w.heap.size = g := ⟨_, rfl⟩
  obtain ⟨fs, hu⟩ := undC
  obtain ⟨n, hn⟩ : ∃ n, c.bad = n := ⟨_, rfl⟩
  have HU := Lib.hid hu
  have HZ := Lib.hid (sizeC c)
  have HK := Lib.hid (fun v => check_any c v hc n hn)
  have HM : Hid (n = 0 → c.May) := Lib.hid (fun h => Cnf.may_of (by rw [hn, h]))
  clear hu hn w0 w1
  by_cases h0 : n = 0
  · subst h0
    have hm := HM.out rfl
    rw [show Cnf.errOf 0 = 0 from rfl] at HK
    have e5 := hm.chain
    have e6 := hm.timeout
    have e7 := hm.fbTimeout
    have e13 := hm.window
    have hN := Cnf.bound_eq e5.1 e5.2 ⟨by omega, e7.2⟩ ⟨by omega, by omega⟩ e13
    have hD := Cnf.bound_eq (c := later c a1) e5.1 e5.2 ⟨by have := e7.1; show (0 : Int) ≤ c.fbTimeout; omega, e7.2⟩ ⟨by show (0 : Int) ≤ c.timeout + a1; omega, by show c.timeout + a1 ≤ 1103806595072; omega⟩ e13
    have hX := Cnf.bound_eq (c := none0 c) (by show (0 : Int) ≤ 0; omega) (by show (0 : Int) ≤ 3; omega) ⟨by have := e7.1; show (0 : Int) ≤ c.fbTimeout; omega, e7.2⟩ ⟨by show (0 : Int) ≤ c.timeout; omega, by show c.timeout ≤ 1103806595072; omega⟩ e13
    have hbN := fun v => bound_any c v hc
    have hbD := fun v => bound_any (later c a1) v (later_fits hc (by omega) (by omega))
    have hbX := fun v => bound_any (none0 c) v (none_fits hc)
    have HZD := Lib.hid (sizeC (later c a1))
    have HZX := Lib.hid (sizeC (none0 c))
    have HSD : Hid (c.vals.set 6 (.int .u64 (c.timeout + a1)) = (later c a1).vals) := Lib.hid rfl
    have HSX : Hid (c.vals.set 5 (.int .i64 0) = (none0 c).vals) := Lib.hid rfl
    have HLZ : Hid (Cnf.zero.vals.length = c.vals.length) := Lib.hid rfl
    have HON := Lib.hid (Cnf.ones_vals c)
    have HC : Hid (∀ (v : World) (ty : TypeId) (g : Nat), v.heap[g]? = some (vobj ty c.vals) → v.cell? ⟨g, 5, none⟩ = some (.int .i64 c.chain) ∧ v.cell? ⟨g, 6, none⟩ = some (.int .u64 c.timeout) ∧ v.cell? ⟨g, 7, none⟩ = some (.int .u64 c.fbTimeout) ∧ v.cell? ⟨g, 13, none⟩ = some (.int .u64 c.window)) :=
      Lib.hid (fun v ty g hv => ⟨vobj_cell hv rfl, vobj_cell hv rfl, vobj_cell hv rfl, vobj_cell hv rfl⟩)
    rw [show (later c a1).timeout = c.timeout + a1 from rfl, show (later c a1).window = c.window from rfl, show (later c a1).chain = c.chain from rfl, show (later c a1).fbTimeout = c.fbTimeout from rfl] at hD
    rw [show (none0 c).timeout = c.timeout from rfl, show (none0 c).window = c.window from rfl, show (none0 c).chain = 0 from rfl, show (none0 c).fbTimeout = c.fbTimeout from rfl] at hX
    generalize c.bound = N at *
    generalize (later c a1).bound = D at *
    generalize (none0 c).bound = X at *
    generalize c.vals = cv at *
    generalize (later c a1).vals = dv at *
    generalize (none0 c).vals = xv at *
    generalize c.timeout = t at *
    generalize c.fbTimeout = f at *
    generalize c.window = q at *
    generalize c.chain = k at *
    have HN := Lib.hid hbN
    have HD := Lib.hid hbD
    have HX := Lib.hid hbX
    clear hm HM hbN hbD hbX
    obtain ⟨F, hF⟩ : ∃ F, k * f = F := ⟨_, rfl⟩
    rw [hF] at hN hD
    have hF0 : 0 ≤ F ∧ F ≤ 3298534883328 := by rw [← hF]; exact Cnf.chain_mul e5.1 e5.2 (by omega) e7.2
    have hX' : X = t + q + 1 := by omega
    have w1 : IntKind.u64.wrap (N + a1) = D := by rw [IntKind.wrap_u64]; omega
    have w2 : IntKind.u64.wrap (t + q) = t + q := by rw [IntKind.wrap_u64]; omega
    have w3 : IntKind.u64.wrap (t + q + 1) = X := by rw [IntKind.wrap_u64]; omega
    have w4 : IntKind.u64.wrap (N - X) = F := by rw [IntKind.wrap_u64]; omega
    have g1 : t < N := by omega
    have g2 : q < N := by omega
    have hcs : (k = 0 ∧ F = 0) ∨ (k = 1 ∧ F = f ∧ f < N) ∨ (k = 2 ∧ F = f + f ∧ f < N) ∨ (k = 3 ∧ F = f + f + f ∧ f < N) := by
      rw [← hF] at hN ⊢
      obtain rfl | rfl | rfl | rfl : k = 0 ∨ k = 1 ∨ k = 2 ∨ k = 3 := by omega
      all_goals omega
    have HW1 := Lib.hid w1
    have HW2 := Lib.hid w2
    have HW3 := Lib.hid w3
    have HW4 := Lib.hid w4
    have HG1 := Lib.hid g1
    have HG2 := Lib.hid g2
    have HCS := Lib.hid hcs
    clear hF hN hD hX hX' w1 w2 w3 w4 g1 g2 hcs
    go_enter Try.func7, Try.ntmps7
    go_wp2_with (refine wpList_box_agg rfl 24 _ rfl g hg cv rfl ?_; intro w1 h1 l1 s1)
    refine (awake_any _).mono ?_
    rintro r w2 ⟨rfl, b2⟩
    have h2 := kb_below h1 b2
    have B2 := Lib.hid (l1.trans (b2.mono (by omega : g ≤ w1.heap.size)))
    clear b2 h1 l1 s1
    go_wp2_with (refine wpList_load_agg rfl 24 _ rfl g rfl cv h2 _ HU.out rfl HZ.out ?_)
    refine (HK.out _).mono ?_
    rintro r w3 ⟨rfl, b3⟩
    have h3 := kb_below h2 b3
    have B3 := Lib.hid (B2.out.trans (b3.mono (by have := B2.out.size; omega)))
    clear b3 h2 B2 HK
    go_wp2_with (refine wpList_load_agg rfl 24 _ rfl g rfl cv h3 _ HU.out rfl HZ.out ?_)
    refine (HN.out _).mono ?_
    rintro r w4 ⟨rfl, b4⟩
    have h4 := kb_below h3 b4
    have B4 := Lib.hid (B3.out.trans (b4.mono (by have := B3.out.size; omega)))
    clear b4 h3 B3 HN
    obtain ⟨d, hd⟩ : ∃ d, w4.heap.size = d := ⟨_, rfl⟩
    have hgd : g < d := by rw [← hd]; exact heap_lt h4
    go_wp2_with (first
      | (refine wpList_load_agg rfl 24 _ rfl g rfl cv h4 _ HU.out rfl HZ.out ?_)
      | (refine wpList_alloc_agg rfl 24 rfl d hd Cnf.zero.vals (allocC _) ?_; intro w5 h5 l5 s5)
      | (refine wpList_store_agg rfl 24 _ _ rfl d Cnf.zero.vals cv rfl rfl h5 HLZ.out HZ.out HON.out ?_; intro w6 h6 f6 s6;
         have h6g := (f6.block g (by omega) (by omega)).trans ((l5.block g (by omega)).trans h4);
         have B6 := Lib.hid ((B4.out.trans (l5.mono (by omega : g ≤ d))).trans (f6.below (by omega : g ≤ w5.heap.size) (fun j hj e => by omega)));
         obtain ⟨p5, p6, p7, p13⟩ := HC.out _ _ _ h6g;
         have q6 := (HC.out _ _ _ h6).2.1;
         have z6 := vobj_frozen h6 6;
         have h7 := vobj_set h6 6 (.int .u64 (t + a1));
         rw [HSD.out] at h7;
         have h7g := (heap_set_other (w := w6) (p := ⟨d, 6, none⟩) (k := g) (by show g ≠ d; omega) (.int .u64 (t + a1))).trans h6g;
         have B7 := Lib.hid (B6.out.setCell (p := ⟨d, 6, none⟩) (by show g ≤ d; omega) (.int .u64 (t + a1)));
         have s7 : (w6.setCell ⟨d, 6, none⟩ (.int .u64 (t + a1))).heap.size = d + 1 := (by rw [heap_set_size]; omega);
         clear h6 h6g f6 s6 h5 l5 s5 h4 B4 B6)
      | (refine wpList_load_agg rfl 24 _ rfl g rfl cv h7g _ HU.out rfl HZ.out ?_)
      | (refine wpList_alloc_agg rfl 24 rfl (d + 1) s7 Cnf.zero.vals (allocC _) ?_; intro wa ha la sa)
      | (refine wpList_store_agg rfl 24 _ _ rfl (d + 1) Cnf.zero.vals cv rfl rfl ha HLZ.out HZ.out HON.out ?_; intro w8 h8 f8 s8;
         have h8g := (f8.block g (by omega) (by omega)).trans ((la.block g (by omega)).trans h7g);
         have h8d := (f8.block d (by omega) (by omega)).trans ((la.block d (by omega)).trans h7);
         have B8 := Lib.hid ((B7.out.trans (la.mono (by omega : g ≤ d + 1))).trans (f8.below (by omega : g ≤ wa.heap.size) (fun j hj e => by omega)));
         have q5 := (HC.out _ _ _ h8).1;
         have z5 := vobj_frozen h8 5;
         have h9 := vobj_set h8 5 (.int .i64 0);
         rw [HSX.out] at h9;
         have h9g := (heap_set_other (w := w8) (p := ⟨d + 1, 5, none⟩) (k := g) (by show g ≠ d + 1; omega) (.int .i64 0)).trans h8g;
         have h9d := (heap_set_other (w := w8) (p := ⟨d + 1, 5, none⟩) (k := d) (by show d ≠ d + 1; omega) (.int .i64 0)).trans h8d;
         have B9 := Lib.hid (B8.out.setCell (p := ⟨d + 1, 5, none⟩) (by show g ≤ d + 1; omega) (.int .i64 0));
         obtain ⟨r5, r6, r7, r13⟩ := HC.out _ _ _ h9g;
         clear h8 h8g h8d f8 s8 ha la sa h7 h7g s7 B7 B8 p5 p6 p7 p13 q6 z6))
    have H9 := Lib.hid h9
    have H9d := Lib.hid h9d
    clear h9 h9d h9g HC HSX HSD HLZ HON
    rcases HCS.out with ⟨rfl, rfl⟩ | ⟨rfl, rfl, g3⟩ | ⟨rfl, rfl, g3⟩ | ⟨rfl, rfl, g3⟩
    all_goals
      refine wp_loop_rounds 5 ?_
      repeat any_goals (rw [rounds_succ]; go_wp2)
      generalize w8.setCell ⟨d + 1, 5, none⟩ (.int .i64 0) = w9 at *
      have v5 := fun p : Later w9 => p.cell r5
      have v6 := fun p : Later w9 => p.cell r6
      have v7 := fun p : Later w9 => p.cell r7
      have v13 := fun p : Later w9 => p.cell r13
      have ld : ∀ p : Later w9, (Instr.loadAt 24 (.pointer (some ⟨d, 0, none⟩))).run Try.prog p.v = .ok (.agg (aggV dv)) p.v := fun p => run_loadAt_agg _ _ _ _ _ (p.heap H9d.out) HU.out rfl HZD.out
      have lx : ∀ p : Later w9, (Instr.loadAt 24 (.pointer (some ⟨d + 1, 0, none⟩))).run Try.prog p.v = .ok (.agg (aggV xv)) p.v := fun p => run_loadAt_agg _ _ _ _ _ (p.heap H9.out) HU.out rfl HZX.out
      have k1 := HW1.out
      have k2 := HW2.out
      have k3 := HW3.out
      have k4 := HW4.out
      have g1 := HG1.out
      have g2 := HG2.out
      clear r5 r6 r7 r13 HCS q5 z5
      refine wp_region_later (by kernel_rfl) (by kernel_rfl) ?_
      repeat (first
        | (refine wpQuiet_load rfl 24 _ rfl d rfl (.agg (aggV dv)) ld ?_; simp only [Act.put, List.setIfInBounds_toArray, List.set_cons_zero, List.set_cons_succ])
        | (refine wpQuiet_load rfl 24 _ rfl (d + 1) rfl (.agg (aggV xv)) lx ?_; simp only [Act.put, List.setIfInBounds_toArray, List.set_cons_zero, List.set_cons_succ])
        | go_big_quiet_step (first | (go_at_call 14; with_reducible exact Calls.later_of (HD.out _)) | (go_at_call 14; with_reducible exact Calls.later_of (HX.out _))))
      refine wpQuiet_nil ?_
      rintro _ ⟨⟨w10, b10⟩, rfl⟩
      go_wp2
      go_ret
      exact ⟨rfl, by subst hg; exact B9.out.trans (b10.mono B9.out.size)⟩
  · have he : Cnf.errOf n = 1 := by unfold Cnf.errOf; rw [if_neg h0]
    rw [he] at HK
    generalize c.vals = n0 at *
    clear HM
    go_enter Try.func7, Try.ntmps7
    go_wp2_with (first
      | (refine wpList_box_agg rfl 24 _ rfl g hg n0 rfl ?_; intro w1 h1 l1 s1)
      | (go_at_call 9; refine (awake_any _).mono ?_; rintro r w2 ⟨rfl, b2⟩; have h2 := kb_below h1 b2; have B2 := Lib.hid (l1.trans (b2.mono (by omega : g ≤ w1.heap.size))); clear b2 h1 l1)
      | (refine wpList_load_agg rfl 24 _ rfl g rfl n0 h2 _ HU.out rfl HZ.out ?_)
      | (go_at_call 10; refine (HK.out _).mono ?_; rintro r w3 ⟨rfl, b3⟩; have B3 := Lib.hid (B2.out.trans (b3.mono (by have := B2.out.size; omega))); clear b3 h2 B2))
    go_ret
    exact ⟨rfl, by subst hg; exact B3.out⟩

set_option maxRecDepth 100000 in
theorem lifted (os : Os) (started : os.Started) (H : Type) (enc : TypeId × Value → H) :
    ReturnsInHanded {} Try.checked os 7 .any (Rows.confBoundSpec.pre6 enc Try.prog Try.f7 Rows.confBoundRow.domain false) (Rows.confBoundSpec.post enc Try.prog Try.f7 false true false false) := by
  refine returnsInHanded_of_change_sized (C := Try.checked) own started (by kernel_rfl) Try.func7
    (ChangeSpec.witness6 (enc := enc) (C := Try.checked) false ⟨#[], #[.agg #[.int .i64 0, .int .i64 0, .int .i64 0, .int .i64 0, .int .i64 0, .int .i64 0, .int .u64 0, .int .u64 0, .int .i64 0, .int .i64 0, .int .u64 0, .int .i64 0, .int .u64 0, .int .u64 0, .int .i64 0, .int .i64 0], .int .u32 0], []⟩ 8 (by kernel_rfl) (by kernel_rfl) (by kernel_rfl) (by kernel_rfl)) ?_
  intro W base args ds gs before hval0 hW hcnd hsz0 _
  have hval : ∀ (j : Nat) t v, Try.f7.params[j]? = some t → args[j]? = some v → Value.okWide Try.prog W .any base t v := hval0
  have hsz : (DataW.weightsEach Try.prog (Try.f7.params.toList ++ Rows.confBoundSpec.plain.varTypes Try.prog) (ds ++ gs)).all (· ≤ reachBytes) = true := hsz0
  have hW' := hW
  obtain ⟨p, q, hA0, hV, rfl, hfz, hnd⟩ := hW
  have hA : DataW.TrodAll enc Try.prog W 0 (fun _ => true) true Try.f7.params.toList args.toList ds p := hA0
  rw [Try.params7] at hA hval hsz
  have hAk := hA
  obtain ⟨v0, vs0, d0, ds0, p0, q0, hargs, rfl, rfl, h0, r0⟩ := trodAll_cons hA
  obtain ⟨v1, vs1, d1, ds1, p1, q1, rfl, rfl, rfl, h1, r1⟩ := trodAll_cons r0
  obtain ⟨rfl, rfl, rfl⟩ := trodAll_nil r1
  obtain rfl : args = #[v0, v1] := by cases args; simp_all
  obtain ⟨rfl, rfl⟩ := trodVars_none hV
  obtain ⟨c0, rfl, w0⟩ := open_flat (ks := [.int .i64, .int .i64, .int .i64, .int .i64, .int .i64, .int .i64, .int .u64, .int .u64, .int .i64, .int .i64, .int .u64, .int .i64, .int .u64, .int .u64, .int .i64, .int .i64]) 8 (by kernel_rfl) (by kernel_rfl) (hval 0 24 v0 rfl rfl) h0
  obtain ⟨a1, rfl, rfl, rfl, w1⟩ := open_int Try.underlying39 (hval 1 39 v1 rfl rfl) h1
  clear hA0 hval0 hsz0
  refine (walk W c0 w0 a1 w1).mono fun e W' ⟨he, bel⟩ => ?_
  subst he
  exact ⟨_, rfl, _, _, _, [], _, [], hW', trodAll_mk1 (shut_bool Try.underlying4 _), trodAll_below laidOut bel _ _ _ _ (by kernel_rfl) hAk, rfl, bel.frame _, fun h => by cases h⟩

theorem over : Rows.confBoundRow.holds Try.pinned (OpenSpec.ofChange Rows.confBoundSpec) :=
  OpenClaim.holds_of_wide 7 Try.f7 rfl rfl rfl rfl rfl rfl rfl ⟨rfl, rfl, rfl, rfl, rfl⟩ rfl rfl rfl rfl rfl (by kernel_rfl) Try.func7 (by kernel_rfl)
    (of_decide_eq_true (by kernel_rfl)) (by unfold Func.isWrapper; first | (rw [if_pos (by decide +kernel)]; kernel_rfl) | (rw [if_neg (by decide +kernel)]; exact ⟨rfl, rfl⟩))
    (fun os started H enc _ => lifted os started H enc)

theorem proved : Rows.ConfBoundSaid := over
#print axioms proved
end Go.Proofs.Ytjbbgfjoplggpaa.confBound
