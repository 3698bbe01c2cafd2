/- What is proved: ConfBack of porpoiselaw08 answers true for every input, and leaves its arguments as they were; conditions: those of the given row alone. -/
import Derived.Test.YtjbbgfjoplggpaaKit
import Derived.Test.YtjbbgfjoplggpaaLaw08
namespace Go.Proofs.Ytjbbgfjoplggpaa.confBack
open Go.ChangeShapes Go.WideShapes Go.ChangeAt Go.RowKit Go.Deep
open Go.ChangeMaps (open_string shut_string)
set_option linter.unusedVariables false

theorem own : ownKnob Try.prog.godebug = none := by kernel_rfl
theorem laidOut : laidOutB Try.prog = true := by kernel_rfl



set_option maxRecDepth 100000 in
set_option maxHeartbeats 2000000 in
theorem walk (w : World) (c0 : Array Value) (w0 : Flat [.int .i64, .int .i64, .int .i64, .int .i64, .int .i64, .int .i64, .int .u64, .int .u64, .int .i64, .int .i64, .int .u64, .int .i64, .int .u64, .int .u64, .int .i64, .int .i64] c0.toList) :
    Calls Try.prog 5 #[.agg c0] w fun e w' => e = .returned (.bool true) ∧ Below w.heap.size w w' := by
  obtain ⟨c, rfl, hc⟩ := cnf_flat w0
  obtain ⟨g, hg⟩ : ∃ g, w.heap.size = g := ⟨_, rfl⟩
  obtain ⟨fs, hu⟩ := undC
  obtain ⟨n, hn⟩ : ∃ n, c.bad = n := ⟨_, rfl⟩
  have htk := fun v => take_any c.put v (Cnf.put_fits hc) n (by rw [Cnf.wrong_put hc, hn])
  rw [Cnf.take_put hc] at htk
  obtain ⟨d, hd⟩ : ∃ d : Cnf, (if n = 0 then c else Cnf.zero) = d := ⟨_, rfl⟩
  rw [hd] at htk
  have HU := Lib.hid hu
  have HZ := Lib.hid (sizeC c)
  have HD := Lib.hid (sizeC d)
  have HK := Lib.hid (fun v => check_any c v hc n hn)
  have HP := Lib.hid (fun v => put_any c v)
  have HT := Lib.hid htk
  have HL : Hid (Cnf.zero.vals.length = d.vals.length) := Lib.hid rfl
  have HO := Lib.hid (Cnf.ones_vals d)
  have HS := Lib.hid (fun v => sameC hc v)
  have HE : Hid (n = 0 → c = d) := Lib.hid (fun h => by rw [← hd, if_pos h])
  clear hu hn w0 htk hd
  generalize c.put.nums = pn at *
  obtain ⟨e, he⟩ : ∃ e, Cnf.errOf n = e := ⟨_, rfl⟩
  rw [he] at HK HT
  have HX : Hid (e = 0 ∧ n = 0 ∨ e = 1) := Lib.hid (by rw [← he]; unfold Cnf.errOf; split <;> simp_all)
  clear he
  go_enter Try.func5, Try.ntmps5
  go_wp2_with (refine wpList_box_agg rfl 24 _ rfl g hg c.vals rfl ?_; intro w1 h1 l1 s1)
  refine (awake_any _).mono ?_
  rintro r w2 ⟨rfl, b2⟩
  have h2 := kb_below h1 b2
  have B2 := Lib.hid (l1.trans (b2.mono (by omega : g ≤ w1.heap.size)))
  clear b2 h1 l1 s1
  go_wp2_with (refine wpList_load_agg rfl 24 _ rfl g rfl c.vals h2 _ HU.out rfl HZ.out ?_)
  refine (HK.out _).mono ?_
  rintro r w3 ⟨rfl, b3⟩
  have h3 := kb_below h2 b3
  have B3 := Lib.hid (B2.out.trans (b3.mono (by have := B2.out.size; omega)))
  clear b3 h2 B2 HK
  go_wp2_with (refine wpList_load_agg rfl 24 _ rfl g rfl c.vals h3 _ HU.out rfl HZ.out ?_)
  refine (HP.out _).mono ?_
  rintro r w4 ⟨rfl, b4⟩
  have h4 := kb_below h3 b4
  have B4 := Lib.hid (B3.out.trans (b4.mono (by have := B3.out.size; omega)))
  clear b4 h3 B3 HP
  go_wp2_with fail
  refine (HT.out _).mono ?_
  rintro r w5 ⟨rfl, b5⟩
  have h5 := kb_below h4 b5
  have B5 := Lib.hid (B4.out.trans (b5.mono (by have := B4.out.size; omega)))
  clear b5 h4 B4 HT
  obtain ⟨k, hk⟩ : ∃ k, w5.heap.size = k := ⟨_, rfl⟩
  have hgk : g < k := by rw [← hk]; exact heap_lt h5
  have e4 : ∀ v, (Op.equalIn 10000 24 (.agg (aggV c.vals)) (.agg (aggV c.vals))).run Try.prog v = .ok true v := HS.out
  rcases HX.out with ⟨rfl, hn0⟩ | rfl
  · obtain rfl := HE.out hn0
    go_wp2_with (first
      | (refine wpList_alloc_agg rfl 24 rfl k hk Cnf.zero.vals (allocC _) ?_; intro w6 h6 l6 s6)
      | (refine wpList_store_agg rfl 24 _ _ rfl k Cnf.zero.vals c.vals rfl rfl h6 HL.out HD.out HO.out ?_; intro w7 h7 f7 s7; have h57 := (f7.block g (by omega) (by omega)).trans ((l6.block g hgk).trans h5))
      | (refine wpList_load_aggG rfl 24 _ rfl k rfl c.vals h7 _ HU.out rfl HD.out ?_)
      | (refine wpList_load_aggG rfl 24 _ rfl g rfl c.vals h57 _ HU.out rfl HZ.out ?_))
    go_ret
    refine ⟨rfl, ?_⟩
    subst hg
    exact (B5.out.trans (l6.mono (by have := B5.out.size; omega))).trans (f7.below (by have := B5.out.size; omega) (fun j hj e => by have := B5.out.size; omega))
  · go_wp2_with (first
      | (refine wpList_alloc_agg rfl 24 rfl k hk Cnf.zero.vals (allocC _) ?_; intro w6 h6 l6 s6)
      | (refine wpList_store_agg rfl 24 _ _ rfl k Cnf.zero.vals d.vals rfl rfl h6 HL.out HD.out HO.out ?_; intro w7 h7 f7 s7; have h57 := (f7.block g (by omega) (by omega)).trans ((l6.block g hgk).trans h5)))
    go_ret
    refine ⟨rfl, ?_⟩
    subst hg
    exact (B5.out.trans (l6.mono (by have := B5.out.size; omega))).trans (f7.below (by have := B5.out.size; omega) (fun j hj e => by have := B5.out.size; omega))

set_option maxRecDepth 100000 in
theorem lifted (os : Os) (started : os.Started) (H : Type) (enc : TypeId × Value → H) :
    ReturnsInHanded {} Try.checked os 5 .any (Rows.confBackSpec.pre6 enc Try.prog Try.f5 Rows.confBackRow.domain false) (Rows.confBackSpec.post enc Try.prog Try.f5 false true false false) := by
  refine returnsInHanded_of_change_sized (C := Try.checked) own started (by kernel_rfl) Try.func5
    (ChangeSpec.witness6 (enc := enc) (C := Try.checked) false ⟨#[], #[.agg #[.int .i64 0, .int .i64 0, .int .i64 0, .int .i64 0, .int .i64 0, .int .i64 0, .int .u64 0, .int .u64 0, .int .i64 0, .int .i64 0, .int .u64 0, .int .i64 0, .int .u64 0, .int .u64 0, .int .i64 0, .int .i64 0]], []⟩ 8 (by kernel_rfl) (by kernel_rfl) (by kernel_rfl) (by kernel_rfl)) ?_
  intro W base args ds gs before hval0 hW hcnd hsz0 _
  have hval : ∀ (j : Nat) t v, Try.f5.params[j]? = some t → args[j]? = some v → Value.okWide Try.prog W .any base t v := hval0
  have hsz : (DataW.weightsEach Try.prog (Try.f5.params.toList ++ Rows.confBackSpec.plain.varTypes Try.prog) (ds ++ gs)).all (· ≤ reachBytes) = true := hsz0
  have hW' := hW
  obtain ⟨p, q, hA0, hV, rfl, hfz, hnd⟩ := hW
  have hA : DataW.TrodAll enc Try.prog W 0 (fun _ => true) true Try.f5.params.toList args.toList ds p := hA0
  rw [Try.params5] at hA hval hsz
  have hAk := hA
  obtain ⟨v0, vs0, d0, ds0, p0, q0, hargs, rfl, rfl, h0, r0⟩ := trodAll_cons hA
  obtain ⟨rfl, rfl, rfl⟩ := trodAll_nil r0
  obtain rfl : args = #[v0] := by cases args; simp_all
  obtain ⟨rfl, rfl⟩ := trodVars_none hV
  obtain ⟨c0, rfl, w0⟩ := open_flat (ks := [.int .i64, .int .i64, .int .i64, .int .i64, .int .i64, .int .i64, .int .u64, .int .u64, .int .i64, .int .i64, .int .u64, .int .i64, .int .u64, .int .u64, .int .i64, .int .i64]) 8 (by kernel_rfl) (by kernel_rfl) (hval 0 24 v0 rfl rfl) h0
  clear hA0 hval0 hsz0
  refine (walk W c0 w0).mono fun e W' ⟨he, bel⟩ => ?_
  subst he
  exact ⟨_, rfl, _, _, _, [], _, [], hW', trodAll_mk1 (shut_bool Try.underlying4 _), trodAll_below laidOut bel _ _ _ _ (by kernel_rfl) hAk, rfl, bel.frame _, fun h => by cases h⟩

theorem over : Rows.confBackRow.holds Try.pinned (OpenSpec.ofChange Rows.confBackSpec) :=
  OpenClaim.holds_of_wide 5 Try.f5 rfl rfl rfl rfl rfl rfl rfl ⟨rfl, rfl, rfl, rfl, rfl⟩ rfl rfl rfl rfl rfl (by kernel_rfl) Try.func5 (by kernel_rfl)
    (of_decide_eq_true (by kernel_rfl)) (by unfold Func.isWrapper; first | (rw [if_pos (by decide +kernel)]; kernel_rfl) | (rw [if_neg (by decide +kernel)]; exact ⟨rfl, rfl⟩))
    (fun os started H enc _ => lifted os started H enc)

theorem proved : Rows.ConfBackSaid := over
#print axioms proved
end Go.Proofs.Ytjbbgfjoplggpaa.confBack
