/- What is proved: HealthMore of porpoiselaw16 answers true for every input, and leaves its arguments as they were; conditions: those of the given row alone. -/
import Derived.Test.YtfncipoiblieeaaKit
import Derived.Test.YtfncipoiblieeaaLaw16
import Derived.Deep.LoopGhost
namespace Go.Proofs.Ytfncipoiblieeaa.healthMore
open Go.ChangeShapes Go.WideShapes Go.ChangeAt Go.RowKit Go.Deep
open Go.ChangeMaps (open_string shut_string)
set_option linter.unusedVariables false

theorem own : ownKnob Try.prog.godebug = none := by kernel_rfl
theorem laidOut : laidOutB Try.prog = true := by kernel_rfl

theorem u32_flat {c : Array Value} (h : Flat [.int .u32, .int .u32, .int .u32, .int .u32, .int .u32] c.toList) : ∃ (us : List Value) (x : Nat → Int), c = aggV us ∧ (∀ j, j < 5 → us[j]? = some (.int .u32 (x j))) ∧ ∀ j, 0 ≤ x j ∧ x j ≤ 4294967295 := by
  obtain ⟨l⟩ := c
  match l, h with
  | [_, _, _, _, _], ⟨⟨n0, e0, u0⟩, ⟨n1, e1, u1⟩, ⟨n2, e2, u2⟩, ⟨n3, e3, u3⟩, ⟨n4, e4, u4⟩, _⟩ =>
    subst e0 e1 e2 e3 e4
    have b0 := bounds_u32 u0; have b1 := bounds_u32 u1; have b2 := bounds_u32 u2; have b3 := bounds_u32 u3; have b4 := bounds_u32 u4
    refine ⟨_, fun j => [n0, n1, n2, n3, n4].getD j 0, rfl, fun j hj => ?_, fun j => ?_⟩
    · rcases (show j = 0 ∨ j = 1 ∨ j = 2 ∨ j = 3 ∨ j = 4 by omega) with rfl | rfl | rfl | rfl | rfl <;> rfl
    · match j with
      | 0 => show 0 ≤ n0 ∧ n0 ≤ _; omega
      | 1 => show 0 ≤ n1 ∧ n1 ≤ _; omega
      | 2 => show 0 ≤ n2 ∧ n2 ≤ _; omega
      | 3 => show 0 ≤ n3 ∧ n3 ≤ _; omega
      | 4 => show 0 ≤ n4 ∧ n4 ≤ _; omega
      | j + 5 => show 0 ≤ (0 : Int) ∧ (0 : Int) ≤ _; omega
/-- The first i of them, zeros behind. -/
def upto (x : Nat → Int) (i : Nat) : Nat → Int := fun j => if j < i then x j else 0
theorem upto_step (x : Nat → Int) (i : Nat) : K5.of (updK (upto x i) i (x i)) = K5.of (upto x (i + 1)) := K5.of_congr fun j hj => by
  unfold updK upto
  by_cases h : j = i
  · subst h; rw [if_pos rfl, if_pos (by omega)]
  · rw [if_neg h]
    by_cases h' : j < i
    · rw [if_pos h', if_pos (by omega)]
    · rw [if_neg h', if_neg (by omega)]
theorem upto_all (x : Nat → Int) : K5.of (upto x 5) = K5.of x := K5.of_congr fun j hj => by unfold upto; rw [if_pos hj]
section
variable {x : Nat → Int} (hx : ∀ j, 0 ≤ x j ∧ x j ≤ 4294967295) {m : Nat} (h1 : 1 ≤ m) (h3 : m ≤ 3)
include hx
theorem small_fits : (K5.of x).Fits := K5.of_fits fun k _ => by have := hx k; omega
theorem small_errs : (K5.of x).errs = x 1 + x 2 + x 3 := by
  rw [K5.errs_is (small_fits hx)]
  have := hx 1; have := hx 2; have := hx 3
  exact if_pos (by show x 1 + x 2 + x 3 ≤ _; omega)
theorem small_vol : (K5.of x).vol = x 0 + x 1 + x 2 + x 3 := by
  rw [K5.vol_is (small_fits hx)]
  have := hx 0; have := hx 1; have := hx 2; have := hx 3
  exact if_pos (by show x 0 + x 1 + x 2 + x 3 ≤ _; omega)
theorem more_fits : (K5.of (updK x m (x m + 1))).Fits := K5.of_fits fun k _ => by have := hx k; have := hx m; unfold updK; split <;> omega
include h1 h3
theorem more_errs : (K5.of (updK x m (x m + 1))).errs = (K5.of x).errs + 1 := by
  rw [K5.errs_is (more_fits hx), small_errs hx]
  have := hx 1; have := hx 2; have := hx 3; have := hx m
  show (if updK x m (x m + 1) 1 + updK x m (x m + 1) 2 + updK x m (x m + 1) 3 ≤ _ then updK x m (x m + 1) 1 + updK x m (x m + 1) 2 + updK x m (x m + 1) 3 else _) = _
  rcases (show m = 1 ∨ m = 2 ∨ m = 3 by omega) with rfl | rfl | rfl
  all_goals simp only [updK]
  all_goals simp
  all_goals rw [if_pos (by omega)]
  all_goals omega
theorem more_vol : (K5.of (updK x m (x m + 1))).vol = (K5.of x).vol + 1 := by
  rw [K5.vol_is (more_fits hx), small_vol hx]
  have := hx 0; have := hx 1; have := hx 2; have := hx 3; have := hx m
  show (if updK x m (x m + 1) 0 + updK x m (x m + 1) 1 + updK x m (x m + 1) 2 + updK x m (x m + 1) 3 ≤ _ then updK x m (x m + 1) 0 + updK x m (x m + 1) 1 + updK x m (x m + 1) 2 + updK x m (x m + 1) 3 else _) = _
  rcases (show m = 1 ∨ m = 2 ∨ m = 3 by omega) with rfl | rfl | rfl
  all_goals simp only [updK]
  all_goals simp
  all_goals rw [if_pos (by omega)]
  all_goals omega
theorem more_opens {v p : Int} (ho : (K5.of x).opens v p = true) (hp : p ≤ 100) : (K5.of (updK x m (x m + 1))).opens v p = true := by
  unfold K5.opens partB at *
  rw [more_vol hx h1 h3, more_errs hx h1 h3]
  simp only [Bool.and_eq_true, decide_eq_true_eq] at *
  obtain ⟨a, b⟩ := ho
  refine ⟨by split at a <;> split <;> omega, ?_⟩
  rw [Int.mul_add]
  split at b <;> split <;> omega
end

set_option maxRecDepth 100000 in
set_option maxHeartbeats 2000000 in
theorem walk (w : World) (c0 : Array Value) (w0 : Flat [.int .u32, .int .u32, .int .u32, .int .u32, .int .u32] c0.toList) (c1 : Array Value) (w1 : Flat [.int .i64, .int .i64, .int .i64, .int .i64, .int .i64, .int .i64, .int .u64, .int .u64, .int .i64, .int .i64, .int .u64, .int .i64, .int .u64, .int .u64, .int .i64, .int .i64] c1.toList) (a2 : Int) (w2 : (Lit.int .u8 a2).wf = true) :
    Calls Try.prog 7 #[.agg c0, .agg c1, .int .u8 a2] w fun e w' => e = .returned (.bool true) ∧ Below w.heap.size w w' := by
  obtain ⟨us, x, rfl, hus, hx⟩ := u32_flat w0
  obtain ⟨f, rfl, hf⟩ := cnf_flat w1
  have hq := bounds_u8 w2
  clear w0 w1 w2
  obtain ⟨g, hg⟩ : ∃ g, w.heap.size = g := ⟨_, rfl⟩
  have HG := Lib.hid hg
  obtain ⟨fs, hu⟩ := undC
  have HU := Lib.hid hu
  clear hu
  obtain ⟨m, hm, hm1, hm3⟩ : ∃ m : Nat, 1 + a2 % 3 = m ∧ 1 ≤ m ∧ m ≤ 3 := ⟨(1 + a2 % 3).toNat, by omega, by omega, by omega⟩
  have ht : a2.tmod 3 = a2 % 3 := Int.tmod_eq_emod_of_nonneg (by omega)
  go_enter Try.func7, Try.ntmps7
  go_wp2_with (first
    | (refine wpList_box_agg rfl 51 _ rfl g hg us rfl ?_; intro w1 h1 b1 s1)
    | (refine wpList_box_agg rfl 25 _ rfl (g + 1) s1 f.vals rfl ?_; intro w2 h2 b2 s2; have h1' := kb_below h1 (b2.mono (by omega)); have B2 := Lib.hid (b1.trans (b2.mono (by omega : g ≤ g + 1))); clear b1 b2 h1 s1))
  refine (awake16_any _).mono ?_
  rintro r w3 ⟨rfl, b3⟩
  have k3 := kb_below h1' b3
  have f3 := kb_below h2 b3
  have B3 := Lib.hid (B2.out.trans (b3.mono (by have := B2.out.size; omega : g ≤ w2.heap.size)))
  have z3 : g + 2 ≤ w3.heap.size := by have := b3.size; omega
  clear b3 h1' h2 B2 s2
  obtain ⟨e, he⟩ : ∃ e, w3.heap.size = e := ⟨_, rfl⟩
  have z3' : g + 2 ≤ e := by omega
  go_wp2_with (refine wpList_alloc_agg rfl 23 rfl e he K5.zero.vals (allocK _) ?_; intro w4 d4 b4 s4)
  go_loopg [9] 5 (fun k v9 wr => ∃ i : Nat, i + k = 5 ∧ v9 = .int .i64 i ∧ wr.heap[e]? = some (vobj 23 (K5.of (upto x i)).vals) ∧ wr.heap[g]? = some (vobj 51 us) ∧ wr.heap[g + 1]? = some (vobj 25 f.vals) ∧ Below g w wr ∧ wr.heap.size = e + 1)
  case atStart => exact ⟨0, rfl, rfl, d4, (b4.block g (by omega)).trans k3, (b4.block (g + 1) (by omega)).trans f3, B3.out.trans (b4.mono (by omega)), s4⟩
  case round =>
    obtain ⟨i, hi, rfl, k1, k0, kf, hbl, hsz⟩ := hrel
    have HI := Lib.hid hi
    have K1 := Lib.hid k1
    have K0 := Lib.hid k0
    have KF := Lib.hid kf
    have BL := Lib.hid hbl
    have SZ := Lib.hid hsz
    clear hi k1 k0 kf hbl d4 b4 s4 k3 f3 B3 hsz
    by_cases hlt : i < 5
    · have hlt' : (i : Int) < 5 := by omega
      have c0 := vobj_cell K0.out (hus i hlt)
      have hxi := hx i
      have hset := vobj_set K1.out i (.int .u64 (x i))
      rw [K5.of_set _ hlt, upto_step] at hset
      have HST := Lib.hid hset
      have c1 := vobj_cell K1.out (K5.of_at _ hlt)
      have c2 := vobj_frozen K1.out i
      have FR := Lib.hid ((Frm.refl (· = e) wr).set (F := (· = e)) (p := ⟨e, i, none⟩) rfl (.int .u64 (x i)))
      have hwx : IntKind.u64.wrap (x i) = x i := by rw [IntKind.wrap_u64]; omega
      clear hset
      have HSS := Lib.hid (heap_set_size wr ⟨e, i, none⟩ (.int .u64 (x i)))
      generalize hX : x i = xi at c0 hwx HST FR HSS hxi
      generalize upto x i i = yi at c1
      clear hX hus hx
      go_wp2
      go_roundg (5 - (i + 1))
      case measure => have := HI.out; omega
      case rel =>
        have hsz := SZ.out
        refine ⟨i + 1, by omega, by simp, HST.out, ?_, ?_, ?_, ?_⟩
        · rw [FR.out.block g (by omega) (by omega)]; exact K0.out
        · rw [FR.out.block (g + 1) (by omega) (by omega)]; exact KF.out
        · exact BL.out.trans (FR.out.below (by omega) (fun j hj e => by omega))
        · rw [HSS.out]; exact hsz
    · have hlt' : ¬ (i : Int) < 5 := by omega
      obtain rfl : i = 5 := by have := HI.out; omega
      rw [upto_all] at K1
      have k1 := K1.out
      have hsz := SZ.out
      have k0 := K0.out
      have kf := KF.out
      obtain ⟨X, hX⟩ : ∃ X, K5.of x = X := ⟨_, rfl⟩
      obtain ⟨Y, hY⟩ : ∃ Y, K5.of (updK x m (x m + 1)) = Y := ⟨_, rfl⟩
      have HXF : Hid X.Fits := Lib.hid (by rw [← hX]; exact small_fits hx)
      have HYF : Hid Y.Fits := Lib.hid (by rw [← hY]; exact more_fits hx)
      have HSX := Lib.hid (sizeK5 X)
      have HSY := Lib.hid (sizeK5 Y)
      have HOX := Lib.hid X.ones
      have HZX : Hid (K5.zero.vals.length = X.vals.length) := Lib.hid rfl
      have HMX : Hid (m < X.vals.length) := Lib.hid (by show m < 5; omega)
      have HAT : Hid (X.vals[m]? = some (.int .u64 (x m))) := Lib.hid (by rw [← hX]; exact K5.of_at x (by omega))
      have HSET : Hid (X.vals.set m (.int .u64 (x m + 1)) = Y.vals) := Lib.hid (by rw [← hX, ← hY]; exact K5.of_set x (by omega) _)
      have HER : Hid (Y.errs = X.errs + 1) := Lib.hid (by rw [← hX, ← hY]; exact more_errs hx hm1 hm3)
      have HOP : Hid (∀ v p, X.opens v p = true → p ≤ 100 → Y.opens v p = true) := Lib.hid (fun v p h1 h2 => by rw [← hY]; rw [← hX] at h1; exact more_opens hx hm1 hm3 h1 h2)
      have HEB : Hid (X.errs ≤ 12884901885) := Lib.hid (by rw [← hX, small_errs hx]; have := hx 1; have := hx 2; have := hx 3; omega)
      have HSF := Lib.hid (sizeC f)
      rw [hX] at k1
      have hxm := hx m
      generalize x m = z at *
      have hwz : IntKind.u64.wrap (z + 1) = z + 1 := by rw [IntKind.wrap_u64]; omega
      clear hus hx hX hY K1 K0 KF HI SZ
      have HP : Hid (∀ (v : World) (ty : TypeId) (g : Nat), v.heap[g]? = some (vobj ty f.vals) → v.cell? ⟨g, 9, none⟩ = some (.int .i64 f.percent)) := Lib.hid (fun v ty g h => vobj_cell h rfl)
      have hpb := hf.percent
      obtain ⟨a, ha⟩ : ∃ a, X.opens f.volume f.percent = a := ⟨_, rfl⟩
      have HO1 : Hid (∀ v, Calls Try.prog 16 #[.agg (aggV X.vals), .agg (aggV f.vals)] v fun r w' => r = .returned (.bool a) ∧ Below v.heap.size v w') := Lib.hid (fun v => by rw [← ha]; exact opens_any X f v HXF.out hf)
      have HO2 : Hid (f.percent ≤ 100 → a = true → ∀ v, Calls Try.prog 16 #[.agg (aggV Y.vals), .agg (aggV f.vals)] v fun r w' => r = .returned (.bool true) ∧ Below v.heap.size v w') := Lib.hid (fun h1 h2 v => by rw [← HOP.out f.volume f.percent (ha.trans h2) h1]; exact opens_any Y f v HYF.out hf)
      have HE1 := Lib.hid (fun v => errors_any X v HXF.out)
      have HE2 := Lib.hid (fun v => errors_any Y v HYF.out)
      rw [HER.out] at HE2
      have heb := HEB.out
      have he0 := HXF.out.errs
      clear HOP HER HEB ha HXF HYF hf
      generalize X.errs = er at *
      generalize X.vals = xv at *
      generalize Y.vals = yv at *
      generalize f.percent = p at *
      generalize f.vals = fv at *
      have hwe : IntKind.u64.wrap (er + 1) = er + 1 := by rw [IntKind.wrap_u64]; omega
      go_wp2_with (first
        | (refine wpList_load_agg rfl 23 _ rfl e rfl xv k1 _ undK rfl HSX.out ?_)
        | (refine wpList_alloc_agg rfl 23 rfl (e + 1) hsz K5.zero.vals (allocK _) ?_; intro w5 d5 b5 s5)
        | (refine wpList_store_agg rfl 23 _ _ rfl (e + 1) K5.zero.vals xv rfl rfl d5 HZX.out HSX.out HOX.out ?_; intro w6 d6 r6 s6; have c6 := vobj_cell d6 HAT.out)
        | (refine wpList_store_one rfl 22 _ _ rfl (e + 1) m 23 xv (.int .u64 (z + 1)) rfl rfl d6 HMX.out (by kernel_rfl) rfl rfl ?_; intro w7 d7 r7 s7; rw [HSET.out] at d7;
           have k7 := (r7.block e (by omega) (by omega)).trans ((r6.block e (by omega) (by omega)).trans ((b5.block e (by omega)).trans k1));
           have f7 := (r7.block (g + 1) (by omega) (by omega)).trans ((r6.block (g + 1) (by omega) (by omega)).trans ((b5.block (g + 1) (by omega)).trans kf));
           have B7 := Lib.hid (((BL.out.trans (b5.mono (by omega : g ≤ e + 1))).trans (r6.below (by omega : g ≤ w5.heap.size) (fun j hj e => by omega))).trans (r7.below (by omega : g ≤ w6.heap.size) (fun j hj e => by omega)));
           have z7 : g ≤ w7.heap.size := (by omega);
           clear BL k0 k1 kf d5 b5 s5 d6 r6 s6 r7 s7 c6)
        | (refine wpList_load_agg rfl 23 _ rfl e rfl xv k7 _ undK rfl HSX.out ?_)
        | (refine wpList_load_agg rfl 25 _ rfl (g + 1) rfl fv f7 _ HU.out rfl HSF.out ?_))
      refine (HO1.out _).mono ?_
      rintro r w8 ⟨rfl, b8⟩
      have k8 := kb_below k7 b8
      have f8 := kb_below f7 b8
      have d8 := kb_below d7 b8
      have B8 := Lib.hid (B7.out.trans (b8.mono z7))
      have z8 : g ≤ w8.heap.size := by have := b8.size; omega
      have q9 := HP.out _ _ _ f8
      clear k7 f7 d7 b8 B7 z7
      cases a
      · go_wp2
        go_ret
        refine ⟨rfl, ?_⟩
        try rw [HG.out]
        exact B8.out
      · by_cases hp : p ≤ 100
        · have hp' : ¬ 100 < p := by omega
          have HO2' := Lib.hid (HO2.out hp rfl)
          have lk : ∀ p : Later w8, (Instr.loadAt 23 (.pointer (some ⟨e, 0, none⟩))).run Try.prog p.v = .ok (.agg (aggV xv)) p.v := fun p => run_loadAt_agg _ _ _ _ _ (p.heap k8) undK rfl HSX.out
          have ld : ∀ p : Later w8, (Instr.loadAt 23 (.pointer (some ⟨e + 1, 0, none⟩))).run Try.prog p.v = .ok (.agg (aggV yv)) p.v := fun p => run_loadAt_agg _ _ _ _ _ (p.heap d8) undK rfl HSY.out
          have lf : ∀ p : Later w8, (Instr.loadAt 25 (.pointer (some ⟨g + 1, 0, none⟩))).run Try.prog p.v = .ok (.agg (aggV fv)) p.v := fun p => run_loadAt_agg _ _ _ _ _ (p.heap f8) HU.out rfl HSF.out
          go_wp2
          refine wp_region_later (by kernel_rfl) (by kernel_rfl) ?_
          repeat (first
            | (refine wpQuiet_load rfl 23 _ rfl e rfl (.agg (aggV xv)) lk ?_; simp only [Act.put, List.setIfInBounds_toArray, List.set_cons_zero, List.set_cons_succ])
            | (refine wpQuiet_load rfl 23 _ rfl (e + 1) rfl (.agg (aggV yv)) ld ?_; simp only [Act.put, List.setIfInBounds_toArray, List.set_cons_zero, List.set_cons_succ])
            | (refine wpQuiet_load rfl 25 _ rfl (g + 1) rfl (.agg (aggV fv)) lf ?_; simp only [Act.put, List.setIfInBounds_toArray, List.set_cons_zero, List.set_cons_succ])
            | go_big_quiet_step (first
                | (go_at_call 12; first | (with_reducible exact Calls.later_of (HE1.out _)) | (with_reducible exact Calls.later_of (HE2.out _)))
                | (go_at_call 16; with_reducible exact Calls.later_of (HO2'.out _))))
          refine wpQuiet_nil ?_
          rintro w10 ⟨⟨_, b10⟩, rfl⟩
          go_wp2
          go_ret
          refine ⟨rfl, ?_⟩
          try rw [HG.out]
          exact B8.out.trans (b10.mono z8)
        · have hp' : 100 < p := by omega
          go_wp2
          go_ret
          refine ⟨rfl, ?_⟩
          try rw [HG.out]
          exact B8.out

set_option maxRecDepth 100000 in
theorem lifted (os : Os) (started : os.Started) (H : Type) (enc : TypeId × Value → H) :
    ReturnsInHanded {} Try.checked os 7 .any (Rows.healthMoreSpec.pre6 enc Try.prog Try.f7 Rows.healthMoreRow.domain false) (Rows.healthMoreSpec.post enc Try.prog Try.f7 false true false false) := by
  refine returnsInHanded_of_change_sized (C := Try.checked) own started (by kernel_rfl) Try.func7
    (ChangeSpec.witness6 (enc := enc) (C := Try.checked) false ⟨#[], #[.agg #[.int .u32 0, .int .u32 0, .int .u32 0, .int .u32 0, .int .u32 0], .agg #[.int .i64 0, .int .i64 0, .int .i64 0, .int .i64 0, .int .i64 0, .int .i64 0, .int .u64 0, .int .u64 0, .int .i64 0, .int .i64 0, .int .u64 0, .int .i64 0, .int .u64 0, .int .u64 0, .int .i64 0, .int .i64 0], .int .u8 0], []⟩ 8 (by kernel_rfl) (by kernel_rfl) (by kernel_rfl) (by kernel_rfl)) ?_
  intro W base args ds gs before hval0 hW hcnd hsz0 _
  have hval : ∀ (j : Nat) t v, Try.f7.params[j]? = some t → args[j]? = some v → Value.okWide Try.prog W .any base t v := hval0
  have hsz : (DataW.weightsEach Try.prog (Try.f7.params.toList ++ Rows.healthMoreSpec.plain.varTypes Try.prog) (ds ++ gs)).all (· ≤ reachBytes) = true := hsz0
  have hW' := hW
  obtain ⟨p, q, hA0, hV, rfl, hfz, hnd⟩ := hW
  have hA : DataW.TrodAll enc Try.prog W 0 (fun _ => true) true Try.f7.params.toList args.toList ds p := hA0
  rw [Try.params7] at hA hval hsz
  have hAk := hA
  obtain ⟨v0, vs0, d0, ds0, p0, q0, hargs, rfl, rfl, h0, r0⟩ := trodAll_cons hA
  obtain ⟨v1, vs1, d1, ds1, p1, q1, rfl, rfl, rfl, h1, r1⟩ := trodAll_cons r0
  obtain ⟨v2, vs2, d2, ds2, p2, q2, rfl, rfl, rfl, h2, r2⟩ := trodAll_cons r1
  obtain ⟨rfl, rfl, rfl⟩ := trodAll_nil r2
  obtain rfl : args = #[v0, v1, v2] := by cases args; simp_all
  obtain ⟨rfl, rfl⟩ := trodVars_none hV
  obtain ⟨c0, rfl, w0⟩ := open_flat (ks := [.int .u32, .int .u32, .int .u32, .int .u32, .int .u32]) 8 (by kernel_rfl) (by kernel_rfl) (hval 0 51 v0 rfl rfl) h0
  obtain ⟨c1, rfl, w1⟩ := open_flat (ks := [.int .i64, .int .i64, .int .i64, .int .i64, .int .i64, .int .i64, .int .u64, .int .u64, .int .i64, .int .i64, .int .u64, .int .i64, .int .u64, .int .u64, .int .i64, .int .i64]) 8 (by kernel_rfl) (by kernel_rfl) (hval 1 25 v1 rfl rfl) h1
  obtain ⟨a2, rfl, rfl, rfl, w2⟩ := open_int Try.underlying5 (hval 2 5 v2 rfl rfl) h2
  clear hA0 hval0 hsz0
  refine (walk W c0 w0 c1 w1 a2 w2).mono fun e W' ⟨he, bel⟩ => ?_
  subst he
  exact ⟨_, rfl, _, _, _, [], _, [], hW', trodAll_mk1 (shut_bool Try.underlying4 _), trodAll_below laidOut bel _ _ _ _ (by kernel_rfl) hAk, rfl, bel.frame _, fun h => by cases h⟩

theorem over : Rows.healthMoreRow.holds Try.pinned (OpenSpec.ofChange Rows.healthMoreSpec) :=
  OpenClaim.holds_of_wide 7 Try.f7 rfl rfl rfl rfl rfl rfl rfl ⟨rfl, rfl, rfl, rfl, rfl⟩ rfl rfl rfl rfl rfl (by kernel_rfl) Try.func7 (by kernel_rfl)
    (of_decide_eq_true (by kernel_rfl)) (by unfold Func.isWrapper; first | (rw [if_pos (by decide +kernel)]; kernel_rfl) | (rw [if_neg (by decide +kernel)]; exact ⟨rfl, rfl⟩))
    (fun os started H enc _ => lifted os started H enc)

theorem proved : Rows.HealthMoreSaid := over
#print axioms proved
end Go.Proofs.Ytfncipoiblieeaa.healthMore
