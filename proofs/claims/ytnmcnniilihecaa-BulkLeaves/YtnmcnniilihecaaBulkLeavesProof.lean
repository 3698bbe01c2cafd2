/- What is proved: BulkLeaves of porpoiselaw10 answers true for every input, and leaves its arguments as they were; conditions: those of the given row alone. -/
import Derived.Test.YtnmcnniilihecaaKit
import Derived.Test.YtnmcnniilihecaaRan10
namespace Go.Proofs.Ytnmcnniilihecaa.bulkLeaves
open Go.ChangeShapes Go.WideShapes Go.ChangeAt Go.RowKit Go.Deep
open Go.ChangeMaps (open_string shut_string)
set_option linter.unusedVariables false

theorem own : ownKnob Try.prog.godebug = none := by kernel_rfl
theorem laidOut : laidOutB Try.prog = true := by kernel_rfl



set_option maxRecDepth 100000 in
set_option maxHeartbeats 2000000 in
theorem walk (w : World) (c0 : Array Value) (w0 : Flat [.int .u8, .int .u8] c0.toList) (a1 : Option Addr) (l1 k1 : Nat) (L1 : List (List Value)) (w1 : SliceIn w [.int .i64, .int .i64] 16 a1 l1 k1 L1) (a2 : Int) (w2 : (Lit.int .i64 a2).wf = true) :
    Calls Try.prog 7 #[.agg c0, .slice a1 l1 k1, .int .i64 a2] w fun e w' => e = .returned (.bool true) ∧ Below w.heap.size w w' := by
  obtain ⟨m, q, rfl, hm0, hq0⟩ := w0.two
  have hm : 0 ≤ m ∧ m ≤ 255 := u8_wf hm0
  have hq : 0 ≤ q ∧ q ≤ 255 := u8_wf hq0
  have hid : wf64 a2 := bounds_i64 w2
  have HS := Lib.hid w1
  have HM := Lib.hid hm
  have HQ := Lib.hid hq
  have HID := Lib.hid hid
  clear w0 w1 w2 hm0 hq0 hm hq hid
  have b0 := below_alloc w (.cells #[.int .u8 m, .int .u8 q] 43)
  have e0 : (w.alloc (.cells #[.int .u8 m, .int .u8 q] 43)).heap[w.heap.size]? = some (vobj 43 [.int .u8 m, .int .u8 q]) := heap_alloc_at w _
  generalize hW : w.alloc (.cells #[.int .u8 m, .int .u8 q] 43) = wx at *
  have B0 := Lib.hid b0
  have E0 := Lib.hid e0
  clear b0 e0
  go_enter Try.func7, Try.ntmps7
  go_wp2_with fail
  refine (awake_any _).mono ?_
  rintro r wa ⟨rfl, ba⟩
  have e1 : wa.heap[w.heap.size]? = some (vobj 43 [.int .u8 m, .int .u8 q]) := kb_below E0.out ba
  have c0 : wa.cell? ⟨w.heap.size, 0, none⟩ = some (.int .u8 m) := vobj_cell e1 rfl
  have c1 : wa.cell? ⟨w.heap.size, 1, none⟩ = some (.int .u8 q) := vobj_cell e1 rfl
  have BA := Lib.hid (B0.out.trans (ba.mono B0.out.size))
  clear ba e1 hW B0 E0
  go_wp2_with fail
  refine (conf_any true m q wa HM.out HQ.out).mono ?_
  rintro r wb ⟨c, rfl, n, k, hc, _, _, _, bb⟩
  have HC := Lib.hid hc
  have BB := Lib.hid (BA.out.trans (bb.mono BA.out.size))
  clear hc bb BA c0 c1
  go_wp2_with fail
  refine (ran_any w c n k a1 l1 k1 L1 wb HC.out HS.out BB.out).mono ?_
  rintro r w1 ⟨b, rfl, f, S, hof, o1, _⟩
  have O1 := Lib.hid o1
  have OK : Hid S.Ok := Lib.hid o1.bul.ok
  clear o1 hof BB
  obtain ⟨t, ht⟩ : ∃ t, decide (a2 ∈ S.run) = t := ⟨_, rfl⟩
  obtain ⟨u, hu⟩ : ∃ u, decide (a2 ∈ S.wait) = u := ⟨_, rfl⟩
  obtain ⟨z, hz⟩ : ∃ z, S.run.length = z := ⟨_, rfl⟩
  obtain ⟨z', hz'⟩ : ∃ z', (S.run.erase a2).length = z' := ⟨_, rfl⟩
  have hzz : (t = true ∧ z = z' + 1) ∨ (t = false ∧ z' = z) := by
    by_cases h : a2 ∈ S.run
    · have := List.length_erase_of_mem h
      have h1 := List.length_pos_of_mem h
      exact .inl ⟨by rw [← ht]; simp [h], by omega⟩
    · rw [List.erase_of_not_mem h] at hz'
      exact .inr ⟨by rw [← ht]; simp [h], by omega⟩
  have hz8 : z ≤ 8 := by have := OK.out.lr; have := OK.out.m8; omega
  have HT := Lib.hid ht
  have HUU := Lib.hid hu
  have HZ := Lib.hid hz
  have HZ' := Lib.hid hz'
  clear ht hu hz hz'
  go_wp2_with fail
  refine (ou_runs w b f S a2 w1 O1.out HID.out t HT.out).mono ?_
  rintro r w2 ⟨rfl, b2⟩
  have O2 := Lib.hid (O1.out.below b2)
  clear b2 O1
  go_wp2_with fail
  refine (ou_busy w b f S w2 O2.out z HZ.out).mono ?_
  rintro r wy ⟨rfl, rfl⟩
  go_wp2_with fail
  refine (ou_waiting w b f S w2 O2.out S.wait rfl).mono ?_
  rintro r w3 ⟨A3, k3, c3, rfl, i3, b3⟩
  have O3 := Lib.hid (O2.out.below b3)
  have I3 := Lib.hid i3
  have hk3 : S.wait.length = k3 := i3.row.2.1
  have hk8 : k3 ≤ 1000 := by have := OK.out.lw; have := OK.out.q8; omega
  have HK := Lib.hid hk3
  have HK8 := Lib.hid hk8
  clear i3 b3 O2 hk3 hk8
  go_wp2_with fail
  have hh := has_any A3 k3 c3 a2 S.wait w3 I3.out.row.1 HK.out
  rw [HUU.out] at hh
  refine hh.mono ?_
  clear hh
  rintro r wy ⟨rfl, rfl⟩
  go_wp2_with fail
  refine (ou_drop w b f S a2 _ O3.out u (S.drop a2) HUU.out rfl).mono ?_
  rintro r w4 ⟨rfl, o4, f4⟩
  have I4 := Lib.hid (O3.out.bul.ints f4 I3.out)
  have O4 := Lib.hid o4
  clear o4 f4 O3 I3
  go_wp2_with fail
  refine (ou_free w b f (S.drop a2) a2 w4 O4.out HID.out t ((S.drop a2).free a2) HT.out rfl).mono ?_
  rintro r w5 ⟨rfl, o5, f5⟩
  have I5 := Lib.hid (O4.out.bul.ints f5 I4.out)
  have O5 := Lib.hid o5
  clear o5 f5 O4 I4
  go_wp2_with fail
  have hh := rremove_any A3 k3 c3 a2 S.wait w5 I5.out.row.1 HK.out HK8.out
  rw [HUU.out] at hh
  refine hh.mono ?_
  clear hh
  rintro r w6 ⟨v6, rfl, i6, b6⟩
  obtain ⟨A6, k6, c6, hv, _, _, _, _⟩ := own_row' i6
  subst hv
  have O6 := Lib.hid (O5.out.below b6)
  have I6 := Lib.hid (i6.mono O5.out.low.size)
  clear i6 b6 O5 I5
  rcases hzz with ⟨rfl, rfl⟩ | ⟨rfl, rfl⟩
  all_goals
    go_wp2_with fail
    refine (ou_busy w b f ((S.drop a2).free a2) w6 O6.out z' HZ'.out).mono ?_
    rintro r wy ⟨rfl, rfl⟩
    go_wp2_with fail
    refine (ou_waiting w b f ((S.drop a2).free a2) w6 O6.out (S.wait.erase a2) rfl).mono ?_
    rintro r w7 ⟨A7, k7, c7, rfl, i7, b7⟩
    have O7 := Lib.hid (O6.out.below b7)
    have I7 := Lib.hid i7
    have J7 := Lib.hid (I6.out.below b7)
    clear i7 b7 O6 I6
    go_wp2_with fail
    have hs := same_any A7 A6 k7 c7 k6 c6 _ _ w7 I7.out.row.1 I7.out.row.2.1 J7.out.row.1 J7.out.row.2.1
    rw [show decide (S.wait.erase a2 = S.wait.erase a2) = true by simp] at hs
    refine hs.mono ?_
    clear hs
    rintro r w8 ⟨rfl, a8⟩
    have O8 := Lib.hid (O7.out.ali a8)
    clear a8 O7
    go_wp2_with fail
    refine (ou_drop w b f ((S.drop a2).free a2) a2 w8 O8.out false (((S.drop a2).free a2).drop a2) (by rw [decide_eq_false]; exact fun h => (OK.out.nw.mem_erase_iff.1 h).1 rfl) rfl).mono ?_
    rintro r w9 ⟨rfl, o9, _⟩
    have O9 := Lib.hid o9
    clear o9 O8
    go_wp2_with fail
    refine (ou_free w b f (((S.drop a2).free a2).drop a2) a2 w9 O9.out HID.out false ((((S.drop a2).free a2).drop a2).free a2) (by rw [decide_eq_false]; exact fun h => (OK.out.nr.mem_erase_iff.1 h).1 rfl) rfl).mono ?_
    rintro r w10 ⟨rfl, o10, _⟩
    have O10 := Lib.hid o10
    clear o10 O9
    go_wp2
    go_ret
    exact ⟨rfl, O10.out.low⟩

set_option maxRecDepth 100000 in
theorem lifted (os : Os) (started : os.Started) (H : Type) (enc : TypeId × Value → H) :
    ReturnsInHanded {} Try.checked os 7 .any (Rows.bulkLeavesSpec.pre6 enc Try.prog Try.f7 Rows.bulkLeavesRow.domain false) (Rows.bulkLeavesSpec.post enc Try.prog Try.f7 false true false false) := by
  refine returnsInHanded_of_change_sized (C := Try.checked) own started (by kernel_rfl) Try.func7
    (ChangeSpec.witness6 (enc := enc) (C := Try.checked) false ⟨#[], #[.agg #[.int .u8 0, .int .u8 0], .slice none 0 0, .int .i64 0], []⟩ 8 (by kernel_rfl) (by kernel_rfl) (by kernel_rfl) (by kernel_rfl)) ?_
  intro W base args ds gs before hval0 hW hcnd hsz0 _
  have hval : ∀ (j : Nat) t v, Try.f7.params[j]? = some t → args[j]? = some v → Value.okWide Try.prog W .any base t v := hval0
  have hsz : (DataW.weightsEach Try.prog (Try.f7.params.toList ++ Rows.bulkLeavesSpec.plain.varTypes Try.prog) (ds ++ gs)).all (· ≤ reachBytes) = true := hsz0
  have hW' := hW
  obtain ⟨p, q, hA0, hV, rfl, hfz, hnd⟩ := hW
  have hA : DataW.TrodAll enc Try.prog W 0 (fun _ => true) true Try.f7.params.toList args.toList ds p := hA0
  rw [Try.params7] at hA hval hsz
  have hAk := hA
  obtain ⟨v0, vs0, d0, ds0, p0, q0, hargs, rfl, rfl, h0, r0⟩ := trodAll_cons hA
  obtain ⟨v1, vs1, d1, ds1, p1, q1, rfl, rfl, rfl, h1, r1⟩ := trodAll_cons r0
  obtain ⟨v2, vs2, d2, ds2, p2, q2, rfl, rfl, rfl, h2, r2⟩ := trodAll_cons r1
  obtain ⟨rfl, rfl, rfl⟩ := trodAll_nil r2
  obtain rfl : args = #[v0, v1, v2] := by cases args; simp_all
  obtain ⟨rfl, rfl⟩ := trodVars_none hV
  obtain ⟨c0, rfl, w0⟩ := open_flat (ks := [.int .u8, .int .u8]) 8 (by kernel_rfl) (by kernel_rfl) (hval 0 43 v0 rfl rfl) h0
  obtain ⟨a1, l1, k1, L1, rfl, w1⟩ := open_slice_flat (ks := [.int .i64, .int .i64]) (bytes := 16) 8 Try.underlying25 (by kernel_rfl) (by kernel_rfl) (by decide) (by kernel_rfl) (hval 1 25 v1 rfl rfl) h1 (fun elems rest hd => by subst hd; exact sized_slice hsz (j := 1) (t := 25) (e := 36) rfl rfl Try.underlying25)
  obtain ⟨a2, rfl, rfl, rfl, w2⟩ := open_int Try.underlying3 (hval 2 3 v2 rfl rfl) h2
  clear hA0 hval0 hsz0
  refine (walk W c0 w0 a1 l1 k1 L1 w1 a2 w2).mono fun e W' ⟨he, bel⟩ => ?_
  subst he
  exact ⟨_, rfl, _, _, _, [], _, [], hW', trodAll_mk1 (shut_bool Try.underlying4 _), trodAll_below laidOut bel _ _ _ _ (by kernel_rfl) hAk, rfl, bel.frame _, fun h => by cases h⟩

theorem over : Rows.bulkLeavesRow.holds Try.pinned (OpenSpec.ofChange Rows.bulkLeavesSpec) :=
  OpenClaim.holds_of_wide 7 Try.f7 rfl rfl rfl rfl rfl rfl rfl ⟨rfl, rfl, rfl, rfl, rfl⟩ rfl rfl rfl rfl rfl (by kernel_rfl) Try.func7 (by kernel_rfl)
    (of_decide_eq_true (by kernel_rfl)) (by unfold Func.isWrapper; first | (rw [if_pos (by decide +kernel)]; kernel_rfl) | (rw [if_neg (by decide +kernel)]; exact ⟨rfl, rfl⟩))
    (fun os started H enc _ => lifted os started H enc)

theorem proved : Rows.BulkLeavesSaid := over
#print axioms proved
end Go.Proofs.Ytnmcnniilihecaa.bulkLeaves
