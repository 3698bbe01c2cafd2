/- What is proved: BreakerOne of porpoiselaw09 answers true for every input, and leaves its arguments as they were; conditions: those of the given row alone. -/
import Derived.Test.YtnggcegoomhneaaKit
import Derived.Test.YtnggcegoomhneaaRan09
namespace Go.Proofs.Ytnggcegoomhneaa.breakerOne
open Go.ChangeShapes Go.WideShapes Go.ChangeAt Go.RowKit Go.Deep
open Go.ChangeMaps (open_string shut_string)
set_option linter.unusedVariables false

theorem own : ownKnob Try.prog.godebug = none := by kernel_rfl
theorem laidOut : laidOutB Try.prog = true := by kernel_rfl

theorem one_probe {s now : Int} {x : BK} (h : x.Of (confC s 0)) (hx : x.Fits) (hn : u64B now) :
    ((x.trip now).asked 18446744073709551615 = 2 ∨ (x.trip now).asked 18446744073709551615 = 3) ∧ ((x.trip now).ask 18446744073709551615).state = 3 ∧ ((x.trip now).ask 18446744073709551615).force = 0 := by
  have hf : x.force = 0 := h.force
  have hy : (x.trip now).force = 0 ∧ ((x.trip now).state = 2 ∨ (x.trip now).state = 3) := by
    unfold BK.trip
    split
    · exact ⟨hf, .inl rfl⟩
    · exact ⟨hf, by have := h.state; omega⟩
  have hyf := BK.trip_fits hx hn
  generalize x.trip now = y at *
  have hb := (addS_bd hyf.since.1 hyf.sleep.1).2
  rcases hy.2 with h2 | h3
  · have hw : y.wakes 18446744073709551615 := ⟨by omega, by omega, h2, hb⟩
    refine ⟨.inl ?_, ?_, ?_⟩
    · unfold BK.asked
      rw [if_neg (by omega), if_neg (by omega), if_pos hw]
    · unfold BK.ask
      rw [if_pos hw]
    · unfold BK.ask
      rw [if_pos hw]
      exact hy.1
  · have hw : ¬ y.wakes 18446744073709551615 := fun hw => by have := hw.2.2.1; omega
    refine ⟨.inr ?_, ?_, ?_⟩
    · unfold BK.asked
      rw [if_neg (by omega), if_neg (by omega), if_neg hw]
    · unfold BK.ask
      rw [if_neg hw]
      exact h3
    · unfold BK.ask
      rw [if_neg hw]
      exact hy.1
theorem half_short {z : BK} (h3 : z.state = 3) (hf : z.force = 0) (t : Int) : z.asked t = 3 ∧ z.ask t = z := by
  have hw : ¬ z.wakes t := fun hw => by have := hw.2.2.1; omega
  unfold BK.asked BK.ask
  rw [if_neg (by omega), if_neg (by omega), if_neg hw, if_neg hw]
  exact ⟨rfl, rfl⟩
theorem time_at {w : World} {a : Option Addr} {len cap : Nat} {D : List (List Value)} (h : SliceIn w [.int .u64] 8 a len cap D) {i : Nat} (hi : i < len) :
    ∃ blk off t, a = some ⟨blk, off, none⟩ ∧ w.cell? ⟨blk, off + i, none⟩ = some (.int .u64 t) ∧ u64B t := by
  obtain ⟨zs, h1, h2, _, _, _, h6⟩ := h.ints
  rcases h6 with h6 | ⟨blk, off, ha, _, hc⟩
  · omega
  · refine ⟨blk, off, zs.getD i 0, ha, hc i (by omega), wf_u64 (h2 _ ?_)⟩
    rw [List.getD_eq_getElem?_getD, List.getElem?_eq_getElem (by omega)]
    exact List.getElem_mem _

set_option maxRecDepth 100000 in
set_option maxHeartbeats 2000000 in
theorem walk (w : World) (a0 : Int) (w0 : (Lit.int .u64 a0).wf = true) (a1 : Option Addr) (l1 k1 : Nat) (L1 : List (List Value)) (w1 : SliceIn w [.int .i64, .int .u64, .bool] 24 a1 l1 k1 L1) (a2 : Option Addr) (l2 k2 : Nat) (L2 : List (List Value)) (w2 : SliceIn w [.int .u64] 8 a2 l2 k2 L2) :
    Calls Try.prog 4 #[.int .u64 a0, .slice a1 l1 k1, .slice a2 l2 k2] w fun e w' => e = .returned (.bool true) ∧ Below w.heap.size w w' := by
  have b0 := wf_u64 w0
  have HS := Lib.hid w1
  have HT := Lib.hid w2
  have hml := w2.2.2.2.2.1
  have hlk := w2.2.2.1
  unfold maxLen at hml
  have B0 : Hid (u64B a0) := Lib.hid b0
  clear w0 w1 w2 b0
  go_enter Try.func4, Try.ntmps4
  go_wp2_with fail
  refine (awake_any _).mono ?_
  rintro r wa ⟨rfl, hba⟩
  have HA := Lib.hid hba
  clear hba
  go_wp2_with fail
  refine (conf_any a0 0 wa (.inl rfl)).mono ?_
  rintro r wb ⟨rfl, hb⟩
  have HB := Lib.hid (HA.out.trans (hb.mono HA.out.size))
  clear hb HA
  go_wp2_with fail
  refine (ran_any w (confC a0 0) a1 l1 k1 L1 wb (confC_fits B0.out (by omega)) HS.out HB.out).mono ?_
  rintro r w2 ⟨b, now, rfl, hn, x, hof, hx⟩
  obtain ⟨hm, hz3, hzf⟩ := one_probe hof hx.fits hn
  have H2 := Lib.hid hx
  have HN := Lib.hid hn
  have HZ := Lib.hid (half_short hz3 hzf)
  have HZ3 := Lib.hid hz3
  obtain ⟨m, hm'⟩ : ∃ m, (x.trip now).asked 18446744073709551615 = m := ⟨_, rfl⟩
  rw [hm'] at hm
  have HM := Lib.hid hm'
  have hmb : (m != 2 && m != 3) = false := by rcases hm with rfl | rfl <;> rfl
  clear hx hn hof hz3 hzf hm'
  go_wp2_with fail
  refine (ob_trip w b now x w2 H2.out HN.out _ _ rfl rfl).mono ?_
  rintro r w3 ⟨rfl, h3, _⟩
  have H3 := Lib.hid h3
  clear h3 H2
  go_wp2_with fail
  refine (ob_ask w b _ _ w3 H3.out ⟨by omega, by omega⟩ m _ HM.out rfl).mono ?_
  rintro r w4 ⟨rfl, h4, _⟩
  have H4 := Lib.hid h4
  clear h4 H3
  generalize (x.trip now).ask 18446744073709551615 = z at *
  go_wp2_with fail
  refine (ob_state w b z w4 H4.out 3 HZ3.out).mono ?_
  rintro r wx ⟨rfl, rfl⟩
  rcases hm with rfl | rfl
  all_goals
    go_wp2
    go_loopg [11] l2 (fun q v11 wr => ∃ i : Nat, i + q = l2 ∧ v11 = .int .i64 i ∧ OwB w wr b z)
    case atStart => exact ⟨0, by omega, rfl, H4.out⟩
    case round =>
      obtain ⟨i, hq, rfl, how⟩ := hrel
      have G := Lib.hid hq
      have OW := Lib.hid how
      clear hq how H4
      by_cases hin : i < l2
      · have hi1 : (i : Int) < l2 := by omega
        obtain ⟨blk, off, t, rfl, q0, ht⟩ := time_at HT.out (i := i) hin
        have p0 := cell_later OW.out.low q0
        have T0 := Lib.hid ht
        clear q0 ht
        go_wp2_with fail
        refine (ob_ask w b t z wr OW.out T0.out 3 z (HZ.out t).1 (HZ.out t).2).mono ?_
        rintro r w5 ⟨rfl, h5, _⟩
        have H5 := Lib.hid h5
        clear h5 p0
        go_wp2
        go_roundg (l2 - (i + 1))
        case measure => have := G.out; omega
        case rel => exact ⟨i + 1, by omega, by simp, H5.out⟩
      · have hi1 : ¬ (i : Int) < l2 := by omega
        go_wp2
        go_ret
        exact ⟨rfl, OW.out.low⟩

set_option maxRecDepth 100000 in
theorem lifted (os : Os) (started : os.Started) (H : Type) (enc : TypeId × Value → H) :
    ReturnsInHanded {} Try.checked os 4 .any (Rows.breakerOneSpec.pre6 enc Try.prog Try.f4 Rows.breakerOneRow.domain false) (Rows.breakerOneSpec.post enc Try.prog Try.f4 false true false false) := by
  refine returnsInHanded_of_change_sized (C := Try.checked) own started (by kernel_rfl) Try.func4
    (ChangeSpec.witness6 (enc := enc) (C := Try.checked) false ⟨#[], #[.int .u64 0, .slice none 0 0, .slice none 0 0], []⟩ 8 (by kernel_rfl) (by kernel_rfl) (by kernel_rfl) (by kernel_rfl)) ?_
  intro W base args ds gs before hval0 hW hcnd hsz0 _
  have hval : ∀ (j : Nat) t v, Try.f4.params[j]? = some t → args[j]? = some v → Value.okWide Try.prog W .any base t v := hval0
  have hsz : (DataW.weightsEach Try.prog (Try.f4.params.toList ++ Rows.breakerOneSpec.plain.varTypes Try.prog) (ds ++ gs)).all (· ≤ reachBytes) = true := hsz0
  have hW' := hW
  obtain ⟨p, q, hA0, hV, rfl, hfz, hnd⟩ := hW
  have hA : DataW.TrodAll enc Try.prog W 0 (fun _ => true) true Try.f4.params.toList args.toList ds p := hA0
  rw [Try.params4] at hA hval hsz
  have hAk := hA
  obtain ⟨v0, vs0, d0, ds0, p0, q0, hargs, rfl, rfl, h0, r0⟩ := trodAll_cons hA
  obtain ⟨v1, vs1, d1, ds1, p1, q1, rfl, rfl, rfl, h1, r1⟩ := trodAll_cons r0
  obtain ⟨v2, vs2, d2, ds2, p2, q2, rfl, rfl, rfl, h2, r2⟩ := trodAll_cons r1
  obtain ⟨rfl, rfl, rfl⟩ := trodAll_nil r2
  obtain rfl : args = #[v0, v1, v2] := by cases args; simp_all
  obtain ⟨rfl, rfl⟩ := trodVars_none hV
  obtain ⟨a0, rfl, rfl, rfl, w0⟩ := open_int Try.underlying22 (hval 0 22 v0 rfl rfl) h0
  obtain ⟨a1, l1, k1, L1, rfl, w1⟩ := open_slice_flat (ks := [.int .i64, .int .u64, .bool]) (bytes := 24) 8 Try.underlying25 (by kernel_rfl) (by kernel_rfl) (by decide) (by kernel_rfl) (hval 1 25 v1 rfl rfl) h1 (fun elems rest hd => by subst hd; exact sized_slice hsz (j := 1) (t := 25) (e := 34) rfl rfl Try.underlying25)
  obtain ⟨a2, l2, k2, L2, rfl, w2⟩ := open_slice_flat (ks := [.int .u64]) (bytes := 8) 8 Try.underlying40 (by kernel_rfl) (by kernel_rfl) (by decide) (by kernel_rfl) (hval 2 40 v2 rfl rfl) h2 (fun elems rest hd => by subst hd; exact sized_slice hsz (j := 2) (t := 40) (e := 22) rfl rfl Try.underlying40)
  clear hA0 hval0 hsz0
  refine (walk W a0 w0 a1 l1 k1 L1 w1 a2 l2 k2 L2 w2).mono fun e W' ⟨he, bel⟩ => ?_
  subst he
  exact ⟨_, rfl, _, _, _, [], _, [], hW', trodAll_mk1 (shut_bool Try.underlying4 _), trodAll_below laidOut bel _ _ _ _ (by kernel_rfl) hAk, rfl, bel.frame _, fun h => by cases h⟩

theorem over : Rows.breakerOneRow.holds Try.pinned (OpenSpec.ofChange Rows.breakerOneSpec) :=
  OpenClaim.holds_of_wide 4 Try.f4 rfl rfl rfl rfl rfl rfl rfl ⟨rfl, rfl, rfl, rfl, rfl⟩ rfl rfl rfl rfl rfl (by kernel_rfl) Try.func4 (by kernel_rfl)
    (of_decide_eq_true (by kernel_rfl)) (by unfold Func.isWrapper; first | (rw [if_pos (by decide +kernel)]; kernel_rfl) | (rw [if_neg (by decide +kernel)]; exact ⟨rfl, rfl⟩))
    (fun os started H enc _ => lifted os started H enc)

theorem proved : Rows.BreakerOneSaid := over
#print axioms proved
end Go.Proofs.Ytnggcegoomhneaa.breakerOne
