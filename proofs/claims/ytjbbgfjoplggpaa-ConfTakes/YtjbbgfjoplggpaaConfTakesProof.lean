/- What is proved: ConfTakes of porpoiselaw08 answers true for every input, and leaves its arguments as they were; conditions: those of the given row alone. -/
import Derived.Test.YtjbbgfjoplggpaaKit
import Derived.Test.YtjbbgfjoplggpaaLaw08
import Derived.Test.YtjbbgfjoplggpaaRef08b
namespace Go.Proofs.Ytjbbgfjoplggpaa.confTakes
open Go.ChangeShapes Go.WideShapes Go.ChangeAt Go.RowKit Go.Deep
open Go.ChangeMaps (open_string shut_string)
set_option linter.unusedVariables false

theorem own : ownKnob Try.prog.godebug = none := by kernel_rfl
theorem laidOut : laidOutB Try.prog = true := by kernel_rfl



set_option maxRecDepth 100000 in
set_option maxHeartbeats 2000000 in
theorem walk (w : World) (c0 : Array Value) (w0 : Flat [.int .i64, .int .i64, .int .i64, .int .i64, .int .i64, .int .i64, .int .i64, .int .i64, .int .i64, .int .i64, .int .i64, .int .i64, .int .i64, .int .i64, .int .i64, .int .i64] c0.toList) :
    Calls Try.prog 4 #[.agg c0] w fun e w' => e = .returned (.bool true) ∧ Below w.heap.size w w' := by
  obtain ⟨f, rfl, hf⟩ := cnf_flat64 w0
  obtain ⟨g, hg⟩ : ∃ g, w.heap.size = g := ⟨_, rfl⟩
  obtain ⟨fs, hu⟩ := undC
  obtain ⟨n, hn⟩ : ∃ n, f.wrong = n := ⟨_, rfl⟩
  have htk := fun v => take_any f v hf n hn
  obtain ⟨d, hd⟩ : ∃ d : Cnf, (if n = 0 then f.take else Cnf.zero) = d := ⟨_, rfl⟩
  rw [hd] at htk
  obtain ⟨e, he⟩ : ∃ e, Cnf.errOf n = e := ⟨_, rfl⟩
  rw [he] at htk
  have HU := Lib.hid hu
  have HF := Lib.hid (sizeF f)
  have HD := Lib.hid (sizeC d)
  have HX := Lib.hid (sizeC f.take)
  have HT := Lib.hid htk
  have HO := Lib.hid (fun v => of_any f v)
  have HR := Lib.hid (fun v => rcheck_any f.take v n (by rw [← hn, Cnf.wrong_take hf]))
  have HLD : Hid (Cnf.zero.vals.length = d.vals.length) := Lib.hid rfl
  have HLX : Hid (Cnf.zero.vals.length = f.take.vals.length) := Lib.hid rfl
  have HOD := Lib.hid (Cnf.ones_vals d)
  have HOX := Lib.hid (Cnf.ones_vals f.take)
  have hcs : (n = 0 ∧ e = 0 ∧ f.take.vals = d.vals) ∨ (1 ≤ n ∧ e = 1 ∧ d.vals = Cnf.zero.vals) := by
    rw [← he, ← hd]
    unfold Cnf.errOf
    by_cases h : n = 0
    · simp [h]
    · simp [h]; omega
  have HCS := Lib.hid hcs
  have HSX := Lib.hid (fun v => sameC (Cnf.take_fits hf) v)
  have HSZ := Lib.hid (fun v => sameC (c := Cnf.zero) (by constructor <;> decide) v)
  clear hu hn w0 htk hd he hcs
  generalize f.nums = fv at *
  generalize f.take.vals = xv at *
  generalize d.vals = dv at *
  go_enter Try.func4, Try.ntmps4
  go_wp2_with (refine wpList_box_agg rfl 30 _ rfl g hg fv rfl ?_; intro w1 h1 l1 s1)
  refine (awake_any _).mono ?_
  rintro r w2 ⟨rfl, b2⟩
  have h2 := kb_below h1 b2
  have B2 := Lib.hid (l1.trans (b2.mono (by omega : g ≤ w1.heap.size)))
  clear b2 h1 l1 s1
  go_wp2_with (refine wpList_load_agg rfl 30 _ rfl g rfl fv h2 _ undF rfl HF.out ?_)
  refine (HT.out _).mono ?_
  rintro r w3 ⟨rfl, b3⟩
  have h3 := kb_below h2 b3
  have B3 := Lib.hid (B2.out.trans (b3.mono (by have := B2.out.size; omega)))
  clear b3 h2 B2 HT
  obtain ⟨k, hk⟩ : ∃ k, w3.heap.size = k := ⟨_, rfl⟩
  have hgk : g < k := by rw [← hk]; exact heap_lt h3
  go_wp2_with (first
    | (refine wpList_alloc_agg rfl 24 rfl k hk Cnf.zero.vals (allocC _) ?_; intro w4 h4 l4 s4)
    | (refine wpList_store_agg rfl 24 _ _ rfl k Cnf.zero.vals dv rfl rfl h4 HLD.out HD.out HOD.out ?_; intro w5 h5 f5 s5;
       have h5g := (f5.block g (by omega) (by omega)).trans ((l4.block g hgk).trans h3);
       have B5 := Lib.hid ((B3.out.trans (l4.mono (by omega : g ≤ k))).trans (f5.below (by omega : g ≤ w4.heap.size) (fun j hj e => by omega)));
       clear h4 l4 s4 f5 s5 B3 h3)
    | (refine wpList_load_agg rfl 30 _ rfl g rfl fv h5g _ undF rfl HF.out ?_))
  refine (HO.out _).mono ?_
  rintro r w6 ⟨rfl, b6⟩
  have h6 := kb_below h5 b6
  have B6 := Lib.hid (B5.out.trans (b6.mono (by have := B5.out.size; omega)))
  clear b6 h5 h5g B5 HO
  obtain ⟨q, hq⟩ : ∃ q, w6.heap.size = q := ⟨_, rfl⟩
  have hkq : k < q := by rw [← hq]; exact heap_lt h6
  go_wp2_with (first
    | (refine wpList_alloc_agg rfl 24 rfl q hq Cnf.zero.vals (allocC _) ?_; intro w7 h7 l7 s7)
    | (refine wpList_store_agg rfl 24 _ _ rfl q Cnf.zero.vals xv rfl rfl h7 HLX.out HX.out HOX.out ?_; intro w8 h8 f8 s8;
       have h8k := (f8.block k (by omega) (by omega)).trans ((l7.block k hkq).trans h6);
       have B8 := Lib.hid ((B6.out.trans (l7.mono (by omega : g ≤ q))).trans (f8.below (by omega : g ≤ w7.heap.size) (fun j hj e => by omega)));
       clear h7 l7 s7 f8 s8 B6 h6)
    | (refine wpList_load_agg rfl 24 _ rfl q rfl xv h8 _ HU.out rfl HX.out ?_))
  refine (HR.out _).mono ?_
  rintro r w9 ⟨rfl, b9⟩
  have h9 := kb_below h8 b9
  have h9k := kb_below h8k b9
  have B9 := Lib.hid (B8.out.trans (b9.mono (by have := B8.out.size; omega)))
  clear b9 h8 h8k B8 HR
  rcases HCS.out with ⟨rfl, rfl, rfl⟩ | ⟨hn1, rfl, rfl⟩
  · have hs := HSX.out
    go_wp2_with (first
      | (refine wpList_load_aggG rfl 24 _ rfl k rfl xv h9k _ HU.out rfl HX.out ?_)
      | (refine wpList_load_aggG rfl 24 _ rfl q rfl xv h9 _ HU.out rfl HX.out ?_))
    go_ret
    exact ⟨rfl, by subst hg; exact B9.out⟩
  · have hs := HSZ.out
    have hz := fun v => zeroC v
    have hn1' : (0 : Int) < n := by omega
    go_wp2_with (refine wpList_load_aggG rfl 24 _ rfl k rfl Cnf.zero.vals h9k _ HU.out rfl HD.out ?_)
    go_ret
    exact ⟨rfl, by subst hg; exact B9.out⟩

set_option maxRecDepth 100000 in
theorem lifted (os : Os) (started : os.Started) (H : Type) (enc : TypeId × Value → H) :
    ReturnsInHanded {} Try.checked os 4 .any (Rows.confTakesSpec.pre6 enc Try.prog Try.f4 Rows.confTakesRow.domain false) (Rows.confTakesSpec.post enc Try.prog Try.f4 false true false false) := by
  refine returnsInHanded_of_change_sized (C := Try.checked) own started (by kernel_rfl) Try.func4
    (ChangeSpec.witness6 (enc := enc) (C := Try.checked) false ⟨#[], #[.agg #[.int .i64 0, .int .i64 0, .int .i64 0, .int .i64 0, .int .i64 0, .int .i64 0, .int .i64 0, .int .i64 0, .int .i64 0, .int .i64 0, .int .i64 0, .int .i64 0, .int .i64 0, .int .i64 0, .int .i64 0, .int .i64 0]], []⟩ 8 (by kernel_rfl) (by kernel_rfl) (by kernel_rfl) (by kernel_rfl)) ?_
  intro W base args ds gs before hval0 hW hcnd hsz0 _
  have hval : ∀ (j : Nat) t v, Try.f4.params[j]? = some t → args[j]? = some v → Value.okWide Try.prog W .any base t v := hval0
  have hsz : (DataW.weightsEach Try.prog (Try.f4.params.toList ++ Rows.confTakesSpec.plain.varTypes Try.prog) (ds ++ gs)).all (· ≤ reachBytes) = true := hsz0
  have hW' := hW
  obtain ⟨p, q, hA0, hV, rfl, hfz, hnd⟩ := hW
  have hA : DataW.TrodAll enc Try.prog W 0 (fun _ => true) true Try.f4.params.toList args.toList ds p := hA0
  rw [Try.params4] at hA hval hsz
  have hAk := hA
  obtain ⟨v0, vs0, d0, ds0, p0, q0, hargs, rfl, rfl, h0, r0⟩ := trodAll_cons hA
  obtain ⟨rfl, rfl, rfl⟩ := trodAll_nil r0
  obtain rfl : args = #[v0] := by cases args; simp_all
  obtain ⟨rfl, rfl⟩ := trodVars_none hV
  obtain ⟨c0, rfl, w0⟩ := open_flat (ks := [.int .i64, .int .i64, .int .i64, .int .i64, .int .i64, .int .i64, .int .i64, .int .i64, .int .i64, .int .i64, .int .i64, .int .i64, .int .i64, .int .i64, .int .i64, .int .i64]) 8 (by kernel_rfl) (by kernel_rfl) (hval 0 30 v0 rfl rfl) h0
  clear hA0 hval0 hsz0
  refine (walk W c0 w0).mono fun e W' ⟨he, bel⟩ => ?_
  subst he
  exact ⟨_, rfl, _, _, _, [], _, [], hW', trodAll_mk1 (shut_bool Try.underlying4 _), trodAll_below laidOut bel _ _ _ _ (by kernel_rfl) hAk, rfl, bel.frame _, fun h => by cases h⟩

theorem over : Rows.confTakesRow.holds Try.pinned (OpenSpec.ofChange Rows.confTakesSpec) :=
  OpenClaim.holds_of_wide 4 Try.f4 rfl rfl rfl rfl rfl rfl rfl ⟨rfl, rfl, rfl, rfl, rfl⟩ rfl rfl rfl rfl rfl (by kernel_rfl) Try.func4 (by kernel_rfl)
    (of_decide_eq_true (by kernel_rfl)) (by unfold Func.isWrapper; first | (rw [if_pos (by decide +kernel)]; kernel_rfl) | (rw [if_neg (by decide +kernel)]; exact ⟨rfl, rfl⟩))
    (fun os started H enc _ => lifted os started H enc)

theorem proved : Rows.ConfTakesSaid := over
#print axioms proved
end Go.Proofs.Ytjbbgfjoplggpaa.confTakes
