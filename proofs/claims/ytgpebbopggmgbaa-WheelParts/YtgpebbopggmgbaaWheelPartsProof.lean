/- What is proved: WheelParts of porpoiselaw03 answers true for every input, and leaves its arguments as they were; conditions: those of the given row alone. -/
import Derived.Test.YtgpebbopggmgbaaKit
import Derived.Test.YtgpebbopggmgbaaTwo03
namespace Go.Proofs.Ytgpebbopggmgbaa.wheelParts
open Go.ChangeShapes Go.WideShapes Go.ChangeAt Go.RowKit Go.Deep
open Go.ChangeMaps (open_string shut_string)
set_option linter.unusedVariables false

theorem own : ownKnob Try.prog.godebug = none := by kernel_rfl
theorem laidOut : laidOutB Try.prog = true := by kernel_rfl



set_option maxRecDepth 100000 in
set_option maxHeartbeats 2000000 in
theorem walk (w : World) (a0 : Int) (w0 : (Lit.int .u64 a0).wf = true) (a1 : Option Addr) (l1 k1 : Nat) (L1 : List (List Value)) (w1 : SliceIn w [.int .u64] 8 a1 l1 k1 L1) (a2 : Option Addr) (l2 k2 : Nat) (L2 : List (List Value)) (w2 : SliceIn w [.int .u64] 8 a2 l2 k2 L2) :
    Calls Try.prog 5 #[.int .u64 a0, .slice a1 l1 k1, .slice a2 l2 k2] w fun e w' => e = .returned (.bool true) ∧ Below w.heap.size w w' := by
  have b0 := wf_u64 w0
  obtain ⟨zs, hzl, hrow⟩ := w1.row
  obtain ⟨ys, hyl, hrow2⟩ := w2.row
  clear w0 w1 w2
  obtain ⟨n, hn⟩ : ∃ n, (if 60 < l1 then 60 else l1) = n := ⟨_, rfl⟩
  have hn' : n ≤ 60 := by rw [← hn]; split <;> omega
  have hml := hrow2.2.1
  unfold maxLen at hml
  have HROW := Lib.hid hrow
  have HROW2 := Lib.hid hrow2
  clear hrow hrow2
  go_enter Try.func5, Try.ntmps5
  go_wp2_with fail
  refine (awake_any _).mono ?_
  rintro e wa ⟨rfl, hba⟩
  have hpu := put_any a1 l1 k1 a0 zs wa (HROW.out.later hba) hzl b0.1 b0.2
  rw [hn] at hpu
  have HBA := Lib.hid hba
  clear hba
  go_wp2_with fail
  refine hpu.mono ?_
  clear hpu
  rintro e wb ⟨b, rfl, m, La, hoa, hLa⟩
  have oa := hoa.lift HBA.out
  have hpu := put_any a1 l1 k1 a0 zs wb (HROW.out.later oa.low) hzl b0.1 b0.2
  rw [hn] at hpu
  have OA := Lib.hid oa
  have HLa := Lib.hid hLa
  clear oa hoa hLa hn
  go_wp2_with fail
  refine hpu.mono ?_
  clear hpu
  rintro e wc ⟨b', rfl, m', Lb, hob, hLb⟩
  have htwo : Beside w wc b m b' m' a0 a0 La Lb := by
    refine ⟨OA.out.below hob.low, hob.lift OA.out.low, fun j hj hj' => ?_, HLa.out.trans hLb.symm⟩
    have h1 := OA.out.whl.foot_lt hj
    have h2 := hob.foot j hj'
    omega
  have hlen : La.length = n := by have := congrArg List.length HLa.out; rwa [List.length_map, seqV_length] at this
  have TT := Lib.hid htwo
  have LL := Lib.hid hlen
  clear hob hLb htwo hlen
  go_wp2
  obtain ⟨r, hr⟩ : ∃ r, (if 20 < l2 then 20 else l2) = r := ⟨_, rfl⟩
  have hr' : r ≤ l2 ∧ r ≤ 20 ∧ (r < 20 → r = l2) := by rw [← hr]; split <;> omega
  clear hr
  go_loopg [10, 11] r (fun k v10 v11 wr => ∃ (i : Nat) (tt nb : Int) (L L' : List Ent), i + k = r ∧ v10 = .int .u64 tt ∧ v11 = .int .i64 i ∧ 0 ≤ tt ∧ tt ≤ 18446744073709551615 ∧ L.length ≤ 60 ∧ Beside w wr b m b' m' tt nb L L')
  case atStart => exact ⟨0, a0, a0, La, Lb, by omega, rfl, rfl, b0.1, b0.2, by have := LL.out; omega, TT.out⟩
  case round =>
    obtain ⟨i, tt, nb, L, L', hk, rfl, rfl, ht0, ht1, hL60, htwo⟩ := hrel
    have K := Lib.hid hk
    have T2 := Lib.hid htwo
    clear hk htwo TT LL
    by_cases hir : i < r
    · have hi1 : (i : Int) < l2 := by omega
      have hi2 : (i : Int) < 20 := by omega
      obtain ⟨zb, off, ha, hc⟩ : ∃ zb off, a2 = some ⟨zb, off, none⟩ ∧ w.cell? ⟨zb, off + i, none⟩ = some (.int .u64 (ys.getD i 0)) := by
        rcases HROW2.out.2.2.1 with h | ⟨zb, off, ha, hc⟩
        · omega
        · exact ⟨zb, off, ha, hc i (by omega)⟩
      subst ha
      have hwf := wf_u64 (wf_getD HROW2.out.2.2.2 (j := i) (by omega))
      have hcc := (T2.out.fa.low.cell (cell_lt hc)).trans hc
      generalize ys.getD i 0 = z at *
      obtain ⟨p, hp⟩ : ∃ p, (if 18446744073709551615 - tt < z then 18446744073709551615 - tt else z) = p := ⟨_, rfl⟩
      have hpb : 0 ≤ p ∧ p ≤ 18446744073709551615 - tt := by rw [← hp]; split <;> omega
      clear hc
      go_wp2
      go_loopg [12] (L.length + 1) (fun k v12 wq => ∃ (kk : Nat) (na nb : Int) (L L' : List Ent), L.length + 1 = k ∧ kk + L.length ≤ 60 ∧ v12 = .int .i64 kk ∧ na ≤ tt + p ∧ Beside w wq b m b' m' na nb L L')
      case atStart => exact ⟨0, tt, nb, L, L', rfl, by omega, rfl, by omega, T2.out⟩
      case round =>
        clear hcc
        obtain ⟨kk, na, nb, L, L', hgk, hkk, rfl, hna, htwo⟩ := hrel
        have hk61 : (kk : Int) < 61 := by omega
        have T3 := Lib.hid htwo
        have GK := Lib.hid hgk
        clear htwo hgk
        by_cases hall : ∀ e ∈ L, tt + p < e.d
        · have hst := own_step_none w b m na (tt + p) L _ T3.out.fa hna (by omega) hall
          clear hall
          go_wp2_with fail
          refine hst.mono ?_
          clear hst
          rintro e wd ⟨rfl, hfd, od⟩
          have TD := Lib.hid ((T3.out.first hfd od).alloc (tobj 0 0))
          clear hfd od
          go_wp2
          go_roundg (r - (i + 1))
          case measure => have := K.out; omega
          case rel => exact ⟨i + 1, tt + p, nb, L, L', by omega, rfl, by simp, by omega, by omega, by omega, TD.out⟩
        · obtain ⟨e, l, rfl, hed⟩ : ∃ e l, L = e :: l ∧ e.d ≤ tt + p := by
            cases L with
            | nil => exact absurd (by simp) hall
            | cons e l =>
              refine ⟨e, l, rfl, ?_⟩
              by_cases hc : e.d ≤ tt + p
              · exact hc
              · refine absurd (fun x hx => ?_) hall
                rcases List.mem_cons.1 hx with rfl | hx
                · omega
                · have := (List.pairwise_cons.1 T3.out.fa.whl.sorted).1 x hx
                  omega
          clear hall
          obtain ⟨e', l', rfl⟩ : ∃ e' l', L' = e' :: l' := by
            cases L' with
            | nil => have := T3.out.vv; simp at this
            | cons e' l' => exact ⟨e', l', rfl⟩
          have hvv : vw e = vw e' := (List.cons.inj (by simpa using T3.out.vv)).1
          simp only [vw, Ent.mk.injEq, true_and] at hvv
          have HK := Lib.hid hvv
          clear hvv
          have hst := own_step_some w b m na (tt + p) e l _ T3.out.fa hed (by omega)
          have hwe := T3.out.fa.whl.wf e (by simp)
          have hsame := sameT e.k e.i hwe.1 hwe.2
          have hdM : e'.d ≤ 18446744073709551615 := (T3.out.fb.whl.due e' (by simp)).2
          have hed' := hed
          clear hed
          go_wp2_with fail
          refine hst.mono ?_
          clear hst
          rintro x wd ⟨rfl, hfd, od⟩
          have obd := (T3.out.other hfd od.low).alloc (tobj e.k e.i)
          have hst := own_step_some w b' m' nb 18446744073709551615 e' l' _ obd hdM (by omega)
          have OBD := Lib.hid obd
          have OD := Lib.hid (od.alloc (tobj e.k e.i))
          clear obd od hfd
          go_wp2_with fail
          refine hst.mono ?_
          clear hst
          rintro x we ⟨rfl, hfe, oe⟩
          have hx := cells2 ((heap_alloc_lt (o := tobj e.k e.i) (heap_lt (Whl.other OBD.out.whl hfe (heap_alloc_at wd (tobj e.k e.i)) (by decide) (by decide)))).trans (Whl.other OBD.out.whl hfe (heap_alloc_at wd (tobj e.k e.i)) (by decide) (by decide)))
          have TE := Lib.hid ((T3.out.both OD.out hfe oe).alloc (tobj e.k e.i))
          obtain ⟨hx0, hx1⟩ := hx
          rw [← HK.out.1, ← HK.out.2.1]
          clear hfe oe
          go_wp2
          go_roundg (l.length + 1)
          case measure => have := GK.out; simp at this; omega
          case rel => exact ⟨kk + 1, e.d, e'.d, l, l', rfl, by simp at hkk; omega, by simp, hed', TE.out⟩
    · have hir' : i = r := by have := K.out; omega
      have hno := now_whl b m tt L _ T2.out.fa.whl
      have hl1 := len_whl b m tt L _ T2.out.fa.whl
      have hl2 := len_whl b' m' nb L' _ T2.out.fb.whl
      have hll : L'.length = L.length := by have := congrArg List.length T2.out.vv; simpa using this.symm
      rw [hll] at hl2
      by_cases hil : (i : Int) < l2
      · have h20 : ¬ (i : Int) < 20 := by omega
        go_wp2_with (first | (go_at_call 17; refine hno.mono ?_; rintro e _ ⟨rfl, rfl⟩) | (go_at_call_of 18 b; refine hl1.mono ?_; rintro e _ ⟨rfl, rfl⟩) | (go_at_call_of 18 b'; refine hl2.mono ?_; rintro e _ ⟨rfl, rfl⟩))
        go_ret
        exact ⟨ret_bool (by simp), T2.out.fa.low⟩
      · go_wp2_with (first | (go_at_call 17; refine hno.mono ?_; rintro e _ ⟨rfl, rfl⟩) | (go_at_call_of 18 b; refine hl1.mono ?_; rintro e _ ⟨rfl, rfl⟩) | (go_at_call_of 18 b'; refine hl2.mono ?_; rintro e _ ⟨rfl, rfl⟩))
        go_ret
        exact ⟨ret_bool (by simp), T2.out.fa.low⟩

set_option maxRecDepth 100000 in
theorem lifted (os : Os) (started : os.Started) (H : Type) (enc : TypeId × Value → H) :
    ReturnsInHanded {} Try.checked os 5 .any (Rows.wheelPartsSpec.pre6 enc Try.prog Try.f5 Rows.wheelPartsRow.domain false) (Rows.wheelPartsSpec.post enc Try.prog Try.f5 false true false false) := by
  refine returnsInHanded_of_change_sized (C := Try.checked) own started (by kernel_rfl) Try.func5
    (ChangeSpec.witness6 (enc := enc) (C := Try.checked) false ⟨#[], #[.int .u64 0, .slice none 0 0, .slice none 0 0], []⟩ 8 (by kernel_rfl) (by kernel_rfl) (by kernel_rfl) (by kernel_rfl)) ?_
  intro W base args ds gs before hval0 hW hcnd hsz0 _
  have hval : ∀ (j : Nat) t v, Try.f5.params[j]? = some t → args[j]? = some v → Value.okWide Try.prog W .any base t v := hval0
  have hsz : (DataW.weightsEach Try.prog (Try.f5.params.toList ++ Rows.wheelPartsSpec.plain.varTypes Try.prog) (ds ++ gs)).all (· ≤ reachBytes) = true := hsz0
  have hW' := hW
  obtain ⟨p, q, hA0, hV, rfl, hfz, hnd⟩ := hW
  have hA : DataW.TrodAll enc Try.prog W 0 (fun _ => true) true Try.f5.params.toList args.toList ds p := hA0
  rw [Try.params5] at hA hval hsz
  have hAk := hA
  obtain ⟨v0, vs0, d0, ds0, p0, q0, hargs, rfl, rfl, h0, r0⟩ := trodAll_cons hA
  obtain ⟨v1, vs1, d1, ds1, p1, q1, rfl, rfl, rfl, h1, r1⟩ := trodAll_cons r0
  obtain ⟨v2, vs2, d2, ds2, p2, q2, rfl, rfl, rfl, h2, r2⟩ := trodAll_cons r1
  obtain ⟨rfl, rfl, rfl⟩ := trodAll_nil r2
  obtain rfl : args = #[v0, v1, v2] := by cases args; simp_all
  obtain ⟨rfl, rfl⟩ := trodVars_none hV
  obtain ⟨a0, rfl, rfl, rfl, w0⟩ := open_int Try.underlying22 (hval 0 22 v0 rfl rfl) h0
  obtain ⟨a1, l1, k1, L1, rfl, w1⟩ := open_slice_flat (ks := [.int .u64]) (bytes := 8) 8 Try.underlying41 (by kernel_rfl) (by kernel_rfl) (by decide) (by kernel_rfl) (hval 1 41 v1 rfl rfl) h1 (fun elems rest hd => by subst hd; exact sized_slice hsz (j := 1) (t := 41) (e := 22) rfl rfl Try.underlying41)
  obtain ⟨a2, l2, k2, L2, rfl, w2⟩ := open_slice_flat (ks := [.int .u64]) (bytes := 8) 8 Try.underlying41 (by kernel_rfl) (by kernel_rfl) (by decide) (by kernel_rfl) (hval 2 41 v2 rfl rfl) h2 (fun elems rest hd => by subst hd; exact sized_slice hsz (j := 2) (t := 41) (e := 22) rfl rfl Try.underlying41)
  clear hA0 hval0 hsz0
  refine (walk W a0 w0 a1 l1 k1 L1 w1 a2 l2 k2 L2 w2).mono fun e W' ⟨he, bel⟩ => ?_
  subst he
  exact ⟨_, rfl, _, _, _, [], _, [], hW', trodAll_mk1 (shut_bool Try.underlying4 _), trodAll_below laidOut bel _ _ _ _ (by kernel_rfl) hAk, rfl, bel.frame _, fun h => by cases h⟩

theorem over : Rows.wheelPartsRow.holds Try.pinned (OpenSpec.ofChange Rows.wheelPartsSpec) :=
  OpenClaim.holds_of_wide 5 Try.f5 rfl rfl rfl rfl rfl rfl rfl ⟨rfl, rfl, rfl, rfl, rfl⟩ rfl rfl rfl rfl rfl (by kernel_rfl) Try.func5 (by kernel_rfl)
    (of_decide_eq_true (by kernel_rfl)) (by unfold Func.isWrapper; first | (rw [if_pos (by decide +kernel)]; kernel_rfl) | (rw [if_neg (by decide +kernel)]; exact ⟨rfl, rfl⟩))
    (fun os started H enc _ => lifted os started H enc)

theorem proved : Rows.WheelPartsSaid := over
#print axioms proved
end Go.Proofs.Ytgpebbopggmgbaa.wheelParts
