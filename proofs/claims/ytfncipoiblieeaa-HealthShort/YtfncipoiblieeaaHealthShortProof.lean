/- What is proved: HealthShort of porpoiselaw16 answers true for every input, and leaves its arguments as they were; conditions: those of the given row alone. -/
import Derived.Test.YtfncipoiblieeaaKit
import Derived.Test.YtfncipoiblieeaaLaw16
namespace Go.Proofs.Ytfncipoiblieeaa.healthShort
open Go.ChangeShapes Go.WideShapes Go.ChangeAt Go.RowKit Go.Deep
open Go.ChangeMaps (open_string shut_string)
set_option linter.unusedVariables false

theorem own : ownKnob Try.prog.godebug = none := by kernel_rfl
theorem laidOut : laidOutB Try.prog = true := by kernel_rfl

/-- As many short calls, and no others. -/
def onlyShort (n : Int) : K5 := ⟨0, 0, 0, 0, n⟩
theorem only_fits {n : Int} (h : 0 ≤ n ∧ n ≤ 18446744073709551615) : (onlyShort n).Fits := ⟨by show (0 : Int) ≤ 0 ∧ (0 : Int) ≤ _; omega, by show (0 : Int) ≤ 0 ∧ (0 : Int) ≤ _; omega, by show (0 : Int) ≤ 0 ∧ (0 : Int) ≤ _; omega, by show (0 : Int) ≤ 0 ∧ (0 : Int) ≤ _; omega, h⟩
theorem only_opens (n v p : Int) : (onlyShort n).opens v p = false := by
  unfold K5.opens
  rw [show (onlyShort n).vol = 0 from rfl]
  simp only [Bool.and_eq_false_imp, decide_eq_true_eq]
  intro h; split at h <;> omega
theorem none_opens (k : K5) (hk : k.Fits) (v : Int) : k.opens v 0 = decide ((if 1 < v then v else 1) ≤ k.vol) := by
  unfold K5.opens partB
  have := hk.errs
  rw [if_neg (show ¬ (0 : Int) < 0 by omega), Int.zero_mul, decide_eq_true (show (0 : Int) ≤ 100 * k.errs by omega), Bool.and_true]

set_option maxRecDepth 100000 in
set_option maxHeartbeats 2000000 in
theorem walk (w : World) (c0 : Array Value) (w0 : Flat [.int .u64, .int .u64, .int .u64, .int .u64, .int .u64] c0.toList) (a1 : Int) (w1 : (Lit.int .u64 a1).wf = true) (c2 : Array Value) (w2 : Flat [.int .i64, .int .i64, .int .i64, .int .i64, .int .i64, .int .i64, .int .u64, .int .u64, .int .i64, .int .i64, .int .u64, .int .i64, .int .u64, .int .u64, .int .i64, .int .i64] c2.toList) :
    Calls Try.prog 6 #[.agg c0, .int .u64 a1, .agg c2] w fun e w' => e = .returned (.bool true) ∧ Below w.heap.size w w' := by
  obtain ⟨k, rfl, hk⟩ := k5_flat w0
  obtain ⟨f, rfl, hf⟩ := cnf_flat w2
  have hs := wf_u64 w1
  clear w0 w1 w2
  obtain ⟨g, hg⟩ : ∃ g, w.heap.size = g := ⟨_, rfl⟩
  have HG := Lib.hid hg
  obtain ⟨fs, hu⟩ := undC
  have HU := Lib.hid hu
  clear hu
  obtain ⟨d, hd⟩ : ∃ d : K5, { k with c4 := a1 } = d := ⟨_, rfl⟩
  obtain ⟨all, hall⟩ : ∃ all : Cnf, { f with percent := 0 } = all := ⟨_, rfl⟩
  have hdf : d.Fits := by rw [← hd]; exact ⟨hk.f0, hk.f1, hk.f2, hk.f3, hs⟩
  have haf : all.Fits := by rw [← hall]; exact ⟨hf.mode, hf.pool, hf.queue, hf.sem, hf.fbMax, hf.chain, hf.timeout, hf.fbTimeout, hf.volume, ⟨by simp, by simp⟩, hf.sleep, hf.buckets, hf.width, hf.window, hf.batch, hf.force⟩
  have hod : d.opens f.volume f.percent = k.opens f.volume f.percent := by rw [← hd]; rfl
  have hvd : d.vol = k.vol := by rw [← hd]; rfl
  have hoa : k.opens all.volume all.percent = decide ((if 1 < f.volume then f.volume else 1) ≤ k.vol) := by rw [← hall]; exact none_opens k hk f.volume
  have HSK := Lib.hid (sizeK5 k)
  have HSD := Lib.hid (sizeK5 d)
  have HSF := Lib.hid (sizeC f)
  have HSA := Lib.hid (sizeC all)
  have HZK : Hid (K5.zero.vals.length = k.vals.length) := Lib.hid rfl
  have HZF : Hid (Cnf.zero.vals.length = f.vals.length) := Lib.hid rfl
  have HOK := Lib.hid k.ones
  have HOF := Lib.hid f.ones_vals
  have HSETD : Hid (k.vals.set 4 (.int .u64 a1) = d.vals) := Lib.hid (by rw [← hd]; rfl)
  have HSETA : Hid (f.vals.set 9 (.int .i64 0) = all.vals) := Lib.hid (by rw [← hall]; rfl)
  have H4 : Hid (4 < k.vals.length) := Lib.hid (by show 4 < 5; omega)
  have H9 : Hid (9 < f.vals.length) := Lib.hid (by show 9 < 16; omega)
  have HO1 := Lib.hid (fun v => opens_any d f v hdf hf)
  have HO2 := Lib.hid (fun v => opens_any k f v hk hf)
  have HO3 := Lib.hid (fun v => opens_any (onlyShort a1) f v (only_fits hs) hf)
  have HO4 := Lib.hid (fun v => opens_any k all v hk haf)
  have HV1 := Lib.hid (fun v => volume_any d v hdf)
  have HV2 := Lib.hid (fun v => volume_any k v hk)
  rw [hod] at HO1
  rw [only_opens] at HO3
  rw [hoa] at HO4
  rw [hvd] at HV1
  have hvb := hf.volume
  have HC8 : Hid (∀ (v : World) (ty : TypeId) (g : Nat), v.heap[g]? = some (vobj ty f.vals) → v.cell? ⟨g, 8, none⟩ = some (.int .i64 f.volume)) := Lib.hid (fun v ty g h => vobj_cell h rfl)
  have hkv := hk.vol
  clear hod hvd hoa hd hall hdf haf hk hf
  generalize k.opens f.volume f.percent = op at *
  generalize k.vol = vo at *
  generalize k.vals = kv at *
  generalize d.vals = dv at *
  generalize all.vals = av at *
  generalize f.volume = V at *
  generalize f.vals = fv at *
  obtain ⟨mx, hmx⟩ : ∃ mx, (if 1 < V then V else 1) = mx := ⟨_, rfl⟩
  have hmx2 : (if V < 1 then (1 : Int) else V) = mx := by rw [← hmx]; repeat' split
                                                          all_goals omega
  have hwm : IntKind.u64.wrap mx = mx := by rw [IntKind.wrap_u64, ← hmx]; split <;> omega
  rw [hmx] at HO4
  obtain ⟨y, hy⟩ : ∃ y, decide (mx ≤ vo) = y := ⟨_, rfl⟩
  rw [hy] at HO4
  clear hmx
  go_enter Try.func6, Try.ntmps6
  go_wp2_with (first
    | (refine wpList_box_agg rfl 23 _ rfl g hg kv rfl ?_; intro w1 h1 b1 s1)
    | (refine wpList_box_agg rfl 25 _ rfl (g + 1) s1 fv rfl ?_; intro w2 h2 b2 s2; have h1' := kb_below h1 (b2.mono (by omega)); have B2 := Lib.hid (b1.trans (b2.mono (by omega : g ≤ g + 1))); clear b1 b2 h1 s1))
  refine (awake16_any _).mono ?_
  rintro r w3 ⟨rfl, b3⟩
  have k3 := kb_below h1' b3
  have f3 := kb_below h2 b3
  have B3 := Lib.hid (B2.out.trans (b3.mono (by have := B2.out.size; omega : g ≤ w2.heap.size)))
  have z3 : g + 2 ≤ w3.heap.size := by have := b3.size; omega
  clear b3 h1' h2 B2 s2
  obtain ⟨e, he⟩ : ∃ e, w3.heap.size = e := ⟨_, rfl⟩
  have z3' : g + 2 ≤ e := by omega
  go_wp2_with (first
    | (refine wpList_load_agg rfl 23 _ rfl g rfl kv k3 _ undK rfl HSK.out ?_)
    | (refine wpList_alloc_agg rfl 23 rfl e he K5.zero.vals (allocK _) ?_; intro w4 d4 b4 s4)
    | (refine wpList_store_agg rfl 23 _ _ rfl e K5.zero.vals kv rfl rfl d4 HZK.out HSK.out HOK.out ?_; intro w5 d5 r5 s5)
    | (refine wpList_store_one rfl 22 _ _ rfl e 4 23 kv (.int .u64 a1) rfl rfl d5 H4.out (by kernel_rfl) rfl rfl ?_; intro w6 d6 r6 s6; rw [HSETD.out] at d6;
       have k6 := (r6.block g (by omega) (by omega)).trans ((r5.block g (by omega) (by omega)).trans ((b4.block g (by omega)).trans k3));
       have f6 := (r6.block (g + 1) (by omega) (by omega)).trans ((r5.block (g + 1) (by omega) (by omega)).trans ((b4.block (g + 1) (by omega)).trans f3));
       have B6 := Lib.hid (((B3.out.trans (b4.mono (by omega : g ≤ e))).trans (r5.below (by omega : g ≤ w4.heap.size) (fun j hj e => by omega))).trans (r6.below (by omega : g ≤ w5.heap.size) (fun j hj e => by omega)));
       have z6 : w6.heap.size = e + 1 := (by omega);
       clear B3 k3 f3 d4 b4 s4 d5 r5 s5 r6 s6)
    | (refine wpList_load_agg rfl 25 _ rfl (g + 1) rfl fv f6 _ HU.out rfl HSF.out ?_)
    | (refine wpList_alloc_agg rfl 25 rfl (e + 1) z6 Cnf.zero.vals (allocC _) ?_; intro w7 a7 b7 s7)
    | (refine wpList_store_agg rfl 25 _ _ rfl (e + 1) Cnf.zero.vals fv rfl rfl a7 HZF.out HSF.out HOF.out ?_; intro w8 a8 r8 s8)
    | (refine wpList_store_one rfl 3 _ _ rfl (e + 1) 9 25 fv (.int .i64 0) rfl rfl a8 H9.out (by kernel_rfl) rfl rfl ?_; intro w9 a9 r9 s9; rw [HSETA.out] at a9;
       have k9 := (r9.block g (by omega) (by omega)).trans ((r8.block g (by omega) (by omega)).trans ((b7.block g (by omega)).trans k6));
       have f9 := (r9.block (g + 1) (by omega) (by omega)).trans ((r8.block (g + 1) (by omega) (by omega)).trans ((b7.block (g + 1) (by omega)).trans f6));
       have d9 := (r9.block e (by omega) (by omega)).trans ((r8.block e (by omega) (by omega)).trans ((b7.block e (by omega)).trans d6));
       have B9 := Lib.hid (((B6.out.trans (b7.mono (by omega : g ≤ e + 1))).trans (r8.below (by omega : g ≤ w7.heap.size) (fun j hj e => by omega))).trans (r9.below (by omega : g ≤ w8.heap.size) (fun j hj e => by omega)));
       have z9 : g ≤ w9.heap.size := (by omega);
       clear B6 k6 f6 d6 a7 b7 s7 a8 r8 s8 r9 s9))
  have q8 := HC8.out _ _ _ f9
  have v8 := fun p : Later w9 => p.cell q8
  have lk : ∀ p : Later w9, (Instr.loadAt 23 (.pointer (some ⟨g, 0, none⟩))).run Try.prog p.v = .ok (.agg (aggV kv)) p.v := fun p => run_loadAt_agg _ _ _ _ _ (p.heap k9) undK rfl HSK.out
  have ld : ∀ p : Later w9, (Instr.loadAt 23 (.pointer (some ⟨e, 0, none⟩))).run Try.prog p.v = .ok (.agg (aggV dv)) p.v := fun p => run_loadAt_agg _ _ _ _ _ (p.heap d9) undK rfl HSD.out
  have lf : ∀ p : Later w9, (Instr.loadAt 25 (.pointer (some ⟨g + 1, 0, none⟩))).run Try.prog p.v = .ok (.agg (aggV fv)) p.v := fun p => run_loadAt_agg _ _ _ _ _ (p.heap f9) HU.out rfl HSF.out
  have la : ∀ p : Later w9, (Instr.loadAt 25 (.pointer (some ⟨e + 1, 0, none⟩))).run Try.prog p.v = .ok (.agg (aggV av)) p.v := fun p => run_loadAt_agg _ _ _ _ _ (p.heap a9) HU.out rfl HSA.out
  clear he z6
  go_wp2
  refine wp_region_later (by kernel_rfl) (by kernel_rfl) ?_
  simp only [Act.put]
  repeat (first
    | (refine wpQuiet_load rfl 23 _ rfl g rfl (.agg (aggV kv)) lk ?_; simp only [Act.put, List.setIfInBounds_toArray, List.set_cons_zero, List.set_cons_succ])
    | (refine wpQuiet_load rfl 23 _ rfl e rfl (.agg (aggV dv)) ld ?_; simp only [Act.put, List.setIfInBounds_toArray, List.set_cons_zero, List.set_cons_succ])
    | (refine wpQuiet_load rfl 25 _ rfl (g + 1) rfl (.agg (aggV fv)) lf ?_; simp only [Act.put, List.setIfInBounds_toArray, List.set_cons_zero, List.set_cons_succ])
    | (refine wpQuiet_load rfl 25 _ rfl (e + 1) rfl (.agg (aggV av)) la ?_; simp only [Act.put, List.setIfInBounds_toArray, List.set_cons_zero, List.set_cons_succ])
    | go_big_quiet_step (first
        | (go_at_call 14; first | (with_reducible exact Calls.later_of (HV1.out _)) | (with_reducible exact Calls.later_of (HV2.out _)))
        | (go_at_call 16; first | (with_reducible exact Calls.later_of (HO1.out _)) | (with_reducible exact Calls.later_of (HO2.out _)) | (with_reducible exact Calls.later_of (HO4.out _)) | (exact Calls.later_of (HO3.out _)))))
  refine wpQuiet_nil ?_
  rintro w10 ⟨⟨_, b10⟩, rfl⟩
  go_wp2
  go_ret
  refine ⟨rfl, ?_⟩
  try rw [HG.out]
  exact B9.out.trans (b10.mono z9)

set_option maxRecDepth 100000 in
theorem lifted (os : Os) (started : os.Started) (H : Type) (enc : TypeId × Value → H) :
    ReturnsInHanded {} Try.checked os 6 .any (Rows.healthShortSpec.pre6 enc Try.prog Try.f6 Rows.healthShortRow.domain false) (Rows.healthShortSpec.post enc Try.prog Try.f6 false true false false) := by
  refine returnsInHanded_of_change_sized (C := Try.checked) own started (by kernel_rfl) Try.func6
    (ChangeSpec.witness6 (enc := enc) (C := Try.checked) false ⟨#[], #[.agg #[.int .u64 0, .int .u64 0, .int .u64 0, .int .u64 0, .int .u64 0], .int .u64 0, .agg #[.int .i64 0, .int .i64 0, .int .i64 0, .int .i64 0, .int .i64 0, .int .i64 0, .int .u64 0, .int .u64 0, .int .i64 0, .int .i64 0, .int .u64 0, .int .i64 0, .int .u64 0, .int .u64 0, .int .i64 0, .int .i64 0]], []⟩ 8 (by kernel_rfl) (by kernel_rfl) (by kernel_rfl) (by kernel_rfl)) ?_
  intro W base args ds gs before hval0 hW hcnd hsz0 _
  have hval : ∀ (j : Nat) t v, Try.f6.params[j]? = some t → args[j]? = some v → Value.okWide Try.prog W .any base t v := hval0
  have hsz : (DataW.weightsEach Try.prog (Try.f6.params.toList ++ Rows.healthShortSpec.plain.varTypes Try.prog) (ds ++ gs)).all (· ≤ reachBytes) = true := hsz0
  have hW' := hW
  obtain ⟨p, q, hA0, hV, rfl, hfz, hnd⟩ := hW
  have hA : DataW.TrodAll enc Try.prog W 0 (fun _ => true) true Try.f6.params.toList args.toList ds p := hA0
  rw [Try.params6] at hA hval hsz
  have hAk := hA
  obtain ⟨v0, vs0, d0, ds0, p0, q0, hargs, rfl, rfl, h0, r0⟩ := trodAll_cons hA
  obtain ⟨v1, vs1, d1, ds1, p1, q1, rfl, rfl, rfl, h1, r1⟩ := trodAll_cons r0
  obtain ⟨v2, vs2, d2, ds2, p2, q2, rfl, rfl, rfl, h2, r2⟩ := trodAll_cons r1
  obtain ⟨rfl, rfl, rfl⟩ := trodAll_nil r2
  obtain rfl : args = #[v0, v1, v2] := by cases args; simp_all
  obtain ⟨rfl, rfl⟩ := trodVars_none hV
  obtain ⟨c0, rfl, w0⟩ := open_flat (ks := [.int .u64, .int .u64, .int .u64, .int .u64, .int .u64]) 8 (by kernel_rfl) (by kernel_rfl) (hval 0 23 v0 rfl rfl) h0
  obtain ⟨a1, rfl, rfl, rfl, w1⟩ := open_int Try.underlying22 (hval 1 22 v1 rfl rfl) h1
  obtain ⟨c2, rfl, w2⟩ := open_flat (ks := [.int .i64, .int .i64, .int .i64, .int .i64, .int .i64, .int .i64, .int .u64, .int .u64, .int .i64, .int .i64, .int .u64, .int .i64, .int .u64, .int .u64, .int .i64, .int .i64]) 8 (by kernel_rfl) (by kernel_rfl) (hval 2 25 v2 rfl rfl) h2
  clear hA0 hval0 hsz0
  refine (walk W c0 w0 a1 w1 c2 w2).mono fun e W' ⟨he, bel⟩ => ?_
  subst he
  exact ⟨_, rfl, _, _, _, [], _, [], hW', trodAll_mk1 (shut_bool Try.underlying4 _), trodAll_below laidOut bel _ _ _ _ (by kernel_rfl) hAk, rfl, bel.frame _, fun h => by cases h⟩

theorem over : Rows.healthShortRow.holds Try.pinned (OpenSpec.ofChange Rows.healthShortSpec) :=
  OpenClaim.holds_of_wide 6 Try.f6 rfl rfl rfl rfl rfl rfl rfl ⟨rfl, rfl, rfl, rfl, rfl⟩ rfl rfl rfl rfl rfl (by kernel_rfl) Try.func6 (by kernel_rfl)
    (of_decide_eq_true (by kernel_rfl)) (by unfold Func.isWrapper; first | (rw [if_pos (by decide +kernel)]; kernel_rfl) | (rw [if_neg (by decide +kernel)]; exact ⟨rfl, rfl⟩))
    (fun os started H enc _ => lifted os started H enc)

theorem proved : Rows.HealthShortSaid := over
#print axioms proved
end Go.Proofs.Ytfncipoiblieeaa.healthShort
