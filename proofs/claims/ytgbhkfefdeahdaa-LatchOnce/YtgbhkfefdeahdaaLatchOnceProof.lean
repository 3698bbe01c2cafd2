/- What is proved: LatchOnce of porpoiselaw11 answers true for every input, and leaves its arguments as they were; conditions: those of the given row alone. -/
import Derived.Test.YtgbhkfefdeahdaaKit
import Derived.Test.YtgbhkfefdeahdaaLaw11
import Derived.Test.YtgbhkfefdeahdaaRef11b
namespace Go.Proofs.Ytgbhkfefdeahdaa.latchOnce
open Go.ChangeShapes Go.WideShapes Go.ChangeAt Go.RowKit Go.Deep
open Go.ChangeMaps (open_string shut_string)
set_option linter.unusedVariables false

theorem own : ownKnob Try.prog.godebug = none := by kernel_rfl
theorem laidOut : laidOutB Try.prog = true := by kernel_rfl

theorem unlike_at {L : List Ot} (h : Unlike L) {i k : Nat} {x y : Ot} (hx : L[i]? = some x) (hy : L[k]? = some y) (hk : k < i) : y.id ≠ x.id := by
  obtain ⟨hi, rfl⟩ := List.getElem?_eq_some_iff.1 hx
  obtain ⟨hk', rfl⟩ := List.getElem?_eq_some_iff.1 hy
  exact List.pairwise_iff_getElem.1 h k i hk' hi hk
theorem of_unlike {L : List Ot} (h : Unlike L) {i : Nat} {x : Ot} (hx : L[i]? = some x) : hasL L x.id = true ∧ ofL L x.id = x := by
  refine of_first hx ?_
  cases hh : hasL (L.take i) x.id
  · rfl
  · obtain ⟨y, hy, e⟩ := hasL_iff.1 hh
    obtain ⟨k, hk, he⟩ := List.getElem_of_mem hy
    rw [List.length_take] at hk
    rw [List.getElem_take] at he
    have hkL : k < L.length := by omega
    exact absurd e (unlike_at h hx (by rw [List.getElem?_eq_getElem hkL, he]) (by omega))

set_option maxRecDepth 100000 in
set_option maxHeartbeats 2000000 in
theorem walk (w : World) (a0 : Option Addr) (l0 k0 : Nat) (L0 : List (List Value)) (w0 : SliceIn w [.int .i64, .int .i64, .int .i64, .int .i64, .int .u64] 40 a0 l0 k0 L0) :
    Calls Try.prog 4 #[.slice a0 l0 k0] w fun e w' => e = .returned (.bool true) ∧ Below w.heap.size w w' := by
  obtain ⟨V, hrow, hfit, _, _⟩ := outs_in w0
  have HR := Lib.hid hrow
  have HF := Lib.hid hfit
  clear w0 hrow hfit
  obtain ⟨L, hL⟩ : ∃ L, emits [] (V.take 100) = L := ⟨_, rfl⟩
  have LL : Hid (L.length ≤ 100) := Lib.hid (by rw [← hL]; exact emits_take_len V 100)
  have HLL := Lib.hid hL
  clear hL
  go_enter Try.func4, Try.ntmps4
  go_wp2_with (first
    | (go_at_call 9; refine (awake_any w).mono ?_; rintro r wa ⟨rfl, ba⟩; have LA := Lib.hid ba; clear ba)
    | (go_at_call 20; refine (ran_any a0 l0 k0 V wa (HR.out.later LA.out) HF.out).mono ?_; rw [HLL.out]; rintro r w1 ⟨b, rfl, m, v, h1⟩; have H1 := Lib.hid h1; clear h1)
    | (go_at_call 18; refine (all_lat wa.heap.size b m v L w1 H1.out.lat (by have := LL.out; omega)).mono ?_; rintro r w2 ⟨v5, rfl, o5, b5⟩; have H2 := Lib.hid (H1.out.below b5); have O5 := Lib.hid o5; clear o5 b5))
  obtain ⟨A, n, c, hv5, r5, nl, _, _⟩ := O5.out.row'
  subst hv5
  have hml : n ≤ 100 := by have := nl.out; have := LL.out; omega
  have UN : Hid (Unlike L) := Lib.hid H1.out.lat.un
  have MY : Hid (∀ x ∈ L, x.may = true) := Lib.hid H1.out.lat.may
  have FT : Hid (∀ x ∈ L, x.Fits) := Lib.hid H1.out.lat.fits
  have R5 := Lib.hid r5
  clear r5
  go_loopg [6] n (fun q v6 wr => ∃ i : Nat, i + q = n ∧ v6 = .int .i64 i ∧ OwL wa wr b m v L ∧ RowR orec wr A n L)
  case atStart => exact ⟨0, by omega, rfl, H2.out, R5.out⟩
  case round =>
    obtain ⟨i, hq, rfl, hol, hrw⟩ := hrel
    have G := Lib.hid hq
    have OL := Lib.hid hol
    have RW := Lib.hid hrw
    clear hq hol hrw
    by_cases hin : i < n
    · have hi1 : (i : Int) < n := by omega
      obtain ⟨rb, off, x, rfl, hx, hrg⟩ := RW.out.out hin
      have q0 := range_cell hrg
      have hof := of_unlike UN.out hx
      have hfx := FT.out x (List.mem_of_getElem? hx)
      have hmx := MY.out x (List.mem_of_getElem? hx)
      have hoc := of_lat wa.heap.size b m v L x.id wr OL.out.lat hfx.id
      rw [hof.1, hof.2] at hoc
      have hsm := sameO x x hfx hfx
      rw [decide_eq_true rfl] at hsm
      have hmy := may_any x
      rw [hmx] at hmy
      have HM := Lib.hid hmy
      have RG := Lib.hid hrg
      have HX := Lib.hid hx
      have HOC := Lib.hid hoc
      clear hrg hx hof hfx hmx hoc hmy
      go_wp2_with (first
        | (go_at_call 13; refine HOC.out.mono ?_; rintro r w3 ⟨rfl, b3⟩; have O3 := Lib.hid (OL.out.below b3); have R3 := Lib.hid (RW.out.later b3); clear b3; obtain ⟨g, hg⟩ : ∃ g, w3.heap.size = g := ⟨_, rfl⟩)
        | (refine wpList_alloc_agg rfl 29 rfl g hg Ot.zero.vals (allocO _) ?_; intro w4 h4 l4 t4; have K4 := Lib.hid h4; have L4 : Hid (Below w3.heap.size w3 w4) := Lib.hid (by rw [hg]; exact l4); clear h4 l4 t4)
        | (refine wpList_store_agg rfl 29 _ _ rfl g Ot.zero.vals x.vals rfl rfl ?hz rfl (sizeO _) (Ot.ones_vals _) ?_; (case hz => exact K4.out); intro w5 h5 f5 t5;
           have b5 : Below w3.heap.size w3 w5 := L4.out.trans (f5.below L4.out.size (fun j hj e => by omega));
           have O5' := Lib.hid (O3.out.below b5); have R5' := Lib.hid (R3.out.later b5); have K5 := Lib.hid (vobj_range h5); clear h5 f5 t5 b5))
      obtain ⟨rb', off', x', e1, e2, hrg⟩ := R5'.out.out hin
      injection e1 with e1
      injection e1 with e1 e3
      subst e1 e3
      rw [HX.out] at e2
      injection e2 with e2
      subst e2
      have G5 := Lib.hid hrg
      clear hrg q0
      refine wp_region_later (by kernel_rfl) (by kernel_rfl) ?_
      repeat (first
        | (refine wpQuiet_load_out rfl _ rfl g 0 rfl x K5.out ?_; simp only [Act.put, List.setIfInBounds_toArray, List.set_cons_zero, List.set_cons_succ])
        | (refine wpQuiet_load_out rfl _ rfl rb (off + i * 5) rfl x G5.out ?_; simp only [Act.put, List.setIfInBounds_toArray, List.set_cons_zero, List.set_cons_succ])
        | go_big_quiet_step (first | (go_at_call 15; with_reducible exact Calls.later_of (HM.out _))))
      refine wpQuiet_nil ?_
      rintro w10 ⟨⟨_, b10⟩, rfl⟩
      have O10 := Lib.hid (O5'.out.below b10)
      have R10 := Lib.hid (R5'.out.later b10)
      clear b10 O5' R5' K5 G5 hsm HM
      go_wp2
      go_loopg [9] i (fun q v9 ws => ∃ k : Nat, k + q = i ∧ v9 = .int .i64 k ∧ Ali w10 ws)
      case atStart => exact ⟨0, by omega, rfl, Ali.refl _⟩
      case round =>
        obtain ⟨k, hk, rfl, ha⟩ := hrel
        have GK := Lib.hid hk
        have HA := Lib.hid ha
        clear hk
        by_cases hki : k < i
        · have hki' : (k : Int) < i := by omega
          have hkn : (k : Int) < n := by omega
          obtain ⟨rb1, off1, y, e1, hy, hrg1⟩ := (R10.out.ali ha).out (i := k) (by omega)
          injection e1 with e1
          injection e1 with e1 e3
          subst e1 e3
          obtain ⟨rb2, off2, x2, e1, hx2, hrg2⟩ := (R10.out.ali ha).out (i := i) (by omega)
          injection e1 with e1
          injection e1 with e1 e3
          subst e1 e3
          rw [HX.out] at hx2
          injection hx2 with hx2
          subst hx2
          have p0 := range_cell hrg1
          have q0 := range_cell hrg2
          have hne := unlike_at UN.out HX.out hy hki
          have hne' : (y.id == x.id) = false := by simp [hne]
          clear hrg1 hrg2 hne hy ha
          go_wp2
          go_quiet (fail)
          go_wp2
          go_roundg (i - (k + 1))
          case measure => have := GK.out; omega
          case rel => exact ⟨k + 1, by omega, by simp, HA.out.trans (drewN_ali _ _)⟩
        · have hki' : ¬ (k : Int) < i := by omega
          clear ha
          go_wp2
          go_roundg (n - (i + 1))
          case measure => have := G.out; omega
          case rel => exact ⟨i + 1, by omega, by simp, O10.out.ali HA.out, R10.out.ali HA.out⟩
    · have hi1 : ¬ (i : Int) < n := by omega
      go_wp2
      go_ret
      exact ⟨rfl, LA.out.trans (OL.out.low.mono LA.out.size)⟩

set_option maxRecDepth 100000 in
theorem lifted (os : Os) (started : os.Started) (H : Type) (enc : TypeId × Value → H) :
    ReturnsInHanded {} Try.checked os 4 .any (Rows.latchOnceSpec.pre6 enc Try.prog Try.f4 Rows.latchOnceRow.domain false) (Rows.latchOnceSpec.post enc Try.prog Try.f4 false true false false) := by
  refine returnsInHanded_of_change_sized (C := Try.checked) own started (by kernel_rfl) Try.func4
    (ChangeSpec.witness6 (enc := enc) (C := Try.checked) false ⟨#[], #[.slice none 0 0], []⟩ 8 (by kernel_rfl) (by kernel_rfl) (by kernel_rfl) (by kernel_rfl)) ?_
  intro W base args ds gs before hval0 hW hcnd hsz0 _
  have hval : ∀ (j : Nat) t v, Try.f4.params[j]? = some t → args[j]? = some v → Value.okWide Try.prog W .any base t v := hval0
  have hsz : (DataW.weightsEach Try.prog (Try.f4.params.toList ++ Rows.latchOnceSpec.plain.varTypes Try.prog) (ds ++ gs)).all (· ≤ reachBytes) = true := hsz0
  have hW' := hW
  obtain ⟨p, q, hA0, hV, rfl, hfz, hnd⟩ := hW
  have hA : DataW.TrodAll enc Try.prog W 0 (fun _ => true) true Try.f4.params.toList args.toList ds p := hA0
  rw [Try.params4] at hA hval hsz
  have hAk := hA
  obtain ⟨v0, vs0, d0, ds0, p0, q0, hargs, rfl, rfl, h0, r0⟩ := trodAll_cons hA
  obtain ⟨rfl, rfl, rfl⟩ := trodAll_nil r0
  obtain rfl : args = #[v0] := by cases args; simp_all
  obtain ⟨rfl, rfl⟩ := trodVars_none hV
  obtain ⟨a0, l0, k0, L0, rfl, w0⟩ := open_slice_flat (ks := [.int .i64, .int .i64, .int .i64, .int .i64, .int .u64]) (bytes := 40) 8 Try.underlying22 (by kernel_rfl) (by kernel_rfl) (by decide) (by kernel_rfl) (hval 0 22 v0 rfl rfl) h0 (fun elems rest hd => by subst hd; exact sized_slice hsz (j := 0) (t := 22) (e := 29) rfl rfl Try.underlying22)
  clear hA0 hval0 hsz0
  refine (walk W a0 l0 k0 L0 w0).mono fun e W' ⟨he, bel⟩ => ?_
  subst he
  exact ⟨_, rfl, _, _, _, [], _, [], hW', trodAll_mk1 (shut_bool Try.underlying4 _), trodAll_below laidOut bel _ _ _ _ (by kernel_rfl) hAk, rfl, bel.frame _, fun h => by cases h⟩

theorem over : Rows.latchOnceRow.holds Try.pinned (OpenSpec.ofChange Rows.latchOnceSpec) :=
  OpenClaim.holds_of_wide 4 Try.f4 rfl rfl rfl rfl rfl rfl rfl ⟨rfl, rfl, rfl, rfl, rfl⟩ rfl rfl rfl rfl rfl (by kernel_rfl) Try.func4 (by kernel_rfl)
    (of_decide_eq_true (by kernel_rfl)) (by unfold Func.isWrapper; first | (rw [if_pos (by decide +kernel)]; kernel_rfl) | (rw [if_neg (by decide +kernel)]; exact ⟨rfl, rfl⟩))
    (fun os started H enc _ => lifted os started H enc)

theorem proved : Rows.LatchOnceSaid := over
#print axioms proved
end Go.Proofs.Ytgbhkfefdeahdaa.latchOnce
