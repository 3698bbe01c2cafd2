/- What is proved: HistLasts of porpoiselaw07 answers true for every input, and leaves its arguments as they were; conditions: those of the given row alone. -/
import Derived.Test.YtpheifdneafkhaaKit
import Derived.Test.YtpheifdneafkhaaLaw07
namespace Go.Proofs.Ytpheifdneafkhaa.histLasts
open Go.ChangeShapes Go.WideShapes Go.ChangeAt Go.RowKit Go.Deep
open Go.ChangeMaps (open_string shut_string)
set_option linter.unusedVariables false

theorem own : ownKnob Try.prog.godebug = none := by kernel_rfl
theorem laidOut : laidOutB Try.prog = true := by kernel_rfl

theorem told_two (q k t : Nat) : told t 3 [(q, k), (q, k)] = if q ≤ t ∧ t < q + 3 then List.replicate 2 k else [] := by
  by_cases h : q ≤ t ∧ t < q + 3
  · rw [if_pos h]; simp [told, h]
  · rw [if_neg h]; simp [told, h]

set_option maxRecDepth 100000 in
set_option maxHeartbeats 2000000 in
theorem walk (w : World) (a0 : Int) (w0 : (Lit.int .u64 a0).wf = true) (a1 : Int) (w1 : (Lit.int .u16 a1).wf = true) :
    Calls Try.prog 7 #[.int .u64 a0, .int .u16 a1] w fun e w' => e = .returned (.bool true) ∧ Below w.heap.size w w' := by
  have b0 := wf_u64 w0
  have b1 := bounds_u16 w1
  obtain ⟨now, rfl⟩ : ∃ now : Nat, a1 = now := ⟨a1.toNat, by omega⟩
  obtain ⟨k, hk⟩ : ∃ k : Nat, lenS a0 = k := ⟨(lenS a0).toNat, by have := lenS_bd b0.1 b0.2; omega⟩
  have hk64 : k ≤ 64 := by have := lenS_bd b0.1 b0.2; omega
  have HK := Lib.hid hk
  have hps := pct_same (k := k) (n := 2) (p := clampP 50) (by omega) (by omega) (by omega) (clampP_bd 50).1 (clampP_bd 50).2
  have hx : Hid (pctX (cntL (List.replicate 2 k)) (clampP 50) = topN k) := Lib.hid (by unfold pctX; rw [hps])
  have hy : Hid (pctB (cntL (List.replicate 2 k)) (clampP 50) = true) := Lib.hid (by unfold pctB; rw [hps]; rfl)
  have hx0 : Hid (pctX (cntL []) (clampP 50) = 0) := Lib.hid (by unfold pctX; rw [pct_empty])
  have hy0 : Hid (pctB (cntL []) (clampP 50) = false) := Lib.hid (by unfold pctB; rw [pct_empty]; rfl)
  have hix := index65 (Z := cntL (List.replicate 2 k)) (k := k) (z := 2) (by omega) (by rw [cntL_at _ (by omega), List.count_replicate_self]; rfl)
  have hz := same65 z65_ok
  have hbz := zero65
  obtain ⟨q, hq⟩ : ∃ q : Nat, now / 10 = q := ⟨_, rfl⟩
  have hqi : (now : Int) / 10 = (q : Int) := by omega
  obtain ⟨e, he⟩ : ∃ e : Nat, (q + 3) * 10 = e := ⟨_, rfl⟩
  have hei : ((q : Int) + 3) * 10 = (e : Int) := by omega
  obtain ⟨e1, he1⟩ : ∃ e1 : Nat, e - 1 = e1 := ⟨_, rfl⟩
  have hei1 : (e : Int) - 1 = (e1 : Int) := by omega
  have M0 : Hid (max (now / 10) 0 = q) := Lib.hid (by omega)
  have M1 : Hid (max (0 / 10) q = q) := Lib.hid (by omega)
  have M2 : Hid (max (now / 10) q = q) := Lib.hid (by omega)
  have M3 : Hid (max (e1 / 10) q = q + 2) := Lib.hid (by omega)
  have M3' : Hid (max (e1 / 10) (q + 2) = q + 2) := Lib.hid (by omega)
  have M4 : Hid (max (e / 10) (q + 2) = q + 3) := Lib.hid (by omega)
  have M5 : Hid (max (0 / 10) (q + 3) = q + 3) := Lib.hid (by omega)
  have hqm : q ≤ 6553 := by omega
  have hem : e ≤ 65560 := by omega
  have hem1 : e1 ≤ 65560 := by omega
  have T1 : Hid (told q 3 [(q, k), (q, k)] = List.replicate 2 k) := Lib.hid (by rw [told_two, if_pos (by omega)])
  have T2 : Hid (told (q + 2) 3 [(q, k), (q, k)] = List.replicate 2 k) := Lib.hid (by rw [told_two, if_pos (by omega)])
  have T3 : Hid (told (q + 3) 3 [(q, k), (q, k)] = []) := Lib.hid (by rw [told_two, if_neg (by omega)])
  clear w0 w1 hk hps hq he he1
  generalize List.replicate 2 k = K2 at *
  go_enter Try.func7, Try.ntmps7
  go_wp2_with fail
  refine (awake_any _).mono ?_
  rintro r wa ⟨rfl, hba⟩
  have HA := Lib.hid hba
  clear hba
  go_wp2_with fail
  refine (oh_new w wa 3 10 (by omega) (by omega) (by omega) (by omega) HA.out).mono ?_
  rintro r w1 ⟨rfl, h1, _⟩
  have H1 := Lib.hid h1
  clear h1
  generalize wa.heap.size = b at *
  go_wp2_with fail
  refine (oh_add w b 3 10 0 now k a0 _ w1 q [(q, k)] H1.out (by omega) b0.1 b0.2 HK.out M0.out rfl (by decide)).mono ?_
  rintro r w2 ⟨rfl, _, h2⟩
  have H2 := Lib.hid h2
  clear h2
  go_wp2_with fail
  refine (oh_add w b 3 10 q 0 k a0 _ w2 q [(q, k), (q, k)] H2.out (by omega) b0.1 b0.2 HK.out M1.out rfl (by simp)).mono ?_
  rintro r w3 ⟨rfl, _, h3⟩
  have H3 := Lib.hid h3
  clear h3
  go_wp2_with fail
  refine (oh_all w b 3 10 q now _ w3 q _ H3.out (by omega) M2.out T1.out (by simp)).mono ?_
  rintro r w4 ⟨rfl, _, h4⟩
  have H4 := Lib.hid h4
  clear h4
  go_wp2_with (go_at_call 11; refine (bin_any a0 _ b0.1 b0.2).mono ?_; rintro r w7 ⟨rfl, rfl⟩; rw [HK.out])
  refine (oh_all w b 3 10 q e1 _ w4 (q + 2) _ H4.out (by omega) M3.out T2.out (by simp)).mono ?_
  rintro r w5 ⟨rfl, _, h5⟩
  have H5 := Lib.hid h5
  clear h5
  go_wp2_with (go_at_call 11; refine (bin_any a0 _ b0.1 b0.2).mono ?_; rintro r w7 ⟨rfl, rfl⟩; rw [HK.out])
  refine (oh_pct w b 3 10 (q + 2) e1 50 _ w5 (q + 2) _ _ _ H5.out (by omega) (by omega) (by omega) M3'.out T2.out (by simp) hx.out hy.out).mono ?_
  rintro r w6 ⟨rfl, _, h6⟩
  have H6 := Lib.hid h6
  clear h6
  generalize topN k = x at *
  go_wp2_with fail
  refine (oh_all w b 3 10 (q + 2) e _ w6 (q + 3) _ H6.out (by omega) M4.out T3.out (by simp)).mono ?_
  rintro r w7 ⟨rfl, _, h7⟩
  have H7 := Lib.hid h7
  clear h7
  rw [cntL_none]
  obtain ⟨g, hG⟩ : ∃ g, w7.heap.size = g := ⟨_, rfl⟩
  have hbg : b < g := by rw [← hG]; exact H7.out.his.lt
  have HG := Lib.hid hG
  clear hG
  go_wp2_with (first
    | (refine wpList_store_arr rfl 42 (.tmp 13) (.tmp 53) rfl g z65 z65 rfl rfl K8 rfl (size65 z65_len) ?_; rintro w9 K9 F9 S9)
    | (refine wpList_alloc_arr rfl 42 rfl g HG.out z65 (alloc65 _) ?_; rintro w8 K8 B8 S8))
  have hb9 : Below w7.heap.size w7 w9 := by rw [HG.out]; exact B8.trans (F9.below (by omega) (fun j hj e => by omega))
  refine (oh_pct w b 3 10 (q + 3) 0 50 _ w9 (q + 3) _ _ _ (H7.out.below hb9) (by omega) (by omega) (by omega) M5.out T3.out (by simp) hx0.out hy0.out).mono ?_
  rintro r w10 ⟨rfl, f10, h10⟩
  have H10 := Lib.hid h10
  have k10 : w10.heap[g]? = some (aobj 42 z65) := by rw [f10.block g (by omega) (by omega)]; exact K9
  have K10 := Lib.hid k10
  clear h10 k10 f10 K8 K9 F9 B8 S8 S9 hb9
  go_wp2_with (refine wpList_load_arrG (by kernel_rfl) 42 (.tmp 13) rfl g rfl z65 K10.out 65 22 und65 (size65 z65_len) ?_)
  go_ret
  exact ⟨rfl, H10.out.low⟩

set_option maxRecDepth 100000 in
theorem lifted (os : Os) (started : os.Started) (H : Type) (enc : TypeId × Value → H) :
    ReturnsInHanded {} Try.checked os 7 .any (Rows.histLastsSpec.pre6 enc Try.prog Try.f7 Rows.histLastsRow.domain false) (Rows.histLastsSpec.post enc Try.prog Try.f7 false true false false) := by
  refine returnsInHanded_of_change_sized (C := Try.checked) own started (by kernel_rfl) Try.func7
    (ChangeSpec.witness6 (enc := enc) (C := Try.checked) false ⟨#[], #[.int .u64 0, .int .u16 0], []⟩ 8 (by kernel_rfl) (by kernel_rfl) (by kernel_rfl) (by kernel_rfl)) ?_
  intro W base args ds gs before hval0 hW hcnd hsz0 _
  have hval : ∀ (j : Nat) t v, Try.f7.params[j]? = some t → args[j]? = some v → Value.okWide Try.prog W .any base t v := hval0
  have hsz : (DataW.weightsEach Try.prog (Try.f7.params.toList ++ Rows.histLastsSpec.plain.varTypes Try.prog) (ds ++ gs)).all (· ≤ reachBytes) = true := hsz0
  have hW' := hW
  obtain ⟨p, q, hA0, hV, rfl, hfz, hnd⟩ := hW
  have hA : DataW.TrodAll enc Try.prog W 0 (fun _ => true) true Try.f7.params.toList args.toList ds p := hA0
  rw [Try.params7] at hA hval hsz
  have hAk := hA
  obtain ⟨v0, vs0, d0, ds0, p0, q0, hargs, rfl, rfl, h0, r0⟩ := trodAll_cons hA
  obtain ⟨v1, vs1, d1, ds1, p1, q1, rfl, rfl, rfl, h1, r1⟩ := trodAll_cons r0
  obtain ⟨rfl, rfl, rfl⟩ := trodAll_nil r1
  obtain rfl : args = #[v0, v1] := by cases args; simp_all
  obtain ⟨rfl, rfl⟩ := trodVars_none hV
  obtain ⟨a0, rfl, rfl, rfl, w0⟩ := open_int Try.underlying22 (hval 0 22 v0 rfl rfl) h0
  obtain ⟨a1, rfl, rfl, rfl, w1⟩ := open_int Try.underlying39 (hval 1 39 v1 rfl rfl) h1
  clear hA0 hval0 hsz0
  refine (walk W a0 w0 a1 w1).mono fun e W' ⟨he, bel⟩ => ?_
  subst he
  exact ⟨_, rfl, _, _, _, [], _, [], hW', trodAll_mk1 (shut_bool Try.underlying4 _), trodAll_below laidOut bel _ _ _ _ (by kernel_rfl) hAk, rfl, bel.frame _, fun h => by cases h⟩

theorem over : Rows.histLastsRow.holds Try.pinned (OpenSpec.ofChange Rows.histLastsSpec) :=
  OpenClaim.holds_of_wide 7 Try.f7 rfl rfl rfl rfl rfl rfl rfl ⟨rfl, rfl, rfl, rfl, rfl⟩ rfl rfl rfl rfl rfl (by kernel_rfl) Try.func7 (by kernel_rfl)
    (of_decide_eq_true (by kernel_rfl)) (by unfold Func.isWrapper; first | (rw [if_pos (by decide +kernel)]; kernel_rfl) | (rw [if_neg (by decide +kernel)]; exact ⟨rfl, rfl⟩))
    (fun os started H enc _ => lifted os started H enc)

theorem proved : Rows.HistLastsSaid := over
#print axioms proved
end Go.Proofs.Ytpheifdneafkhaa.histLasts
