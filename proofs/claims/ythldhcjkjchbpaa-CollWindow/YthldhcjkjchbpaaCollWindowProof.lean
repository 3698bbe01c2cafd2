/- What is proved: CollWindow of porpoiselaw14 answers true for every input, and leaves its arguments as they were; conditions: those of the given row alone. -/
import Derived.Test.YthldhcjkjchbpaaKit
import Derived.Test.YthldhcjkjchbpaaDeed14
namespace Go.Proofs.Ythldhcjkjchbpaa.collWindow
open Go.ChangeShapes Go.WideShapes Go.ChangeAt Go.RowKit Go.Deep
open Go.ChangeMaps (open_string shut_string)
set_option linter.unusedVariables false

theorem own : ownKnob Try.prog.godebug = none := by kernel_rfl
theorem laidOut : laidOutB Try.prog = true := by kernel_rfl

/-- The window while it is open. -/
def SW (W T : Int) (ms : List P2) : CO := ⟨W, 2, [5], ms, T + W⟩
theorem SW_opn {W T : Int} {ms : List P2} {k : Nat} (h : ms.length = k + 1) : (SW W T ms).opn = true := by cases ms with
  | nil => cases h
  | cons _ _ => rfl
theorem SW_full {W T : Int} {ms : List P2} {k : Nat} (h : ms.length = k + 1) : (SW W T ms).full1 5 = false := by
  unfold CO.full1 CO.zs1; rw [SW_opn h]; rfl
theorem SW_next {W T now id : Int} {ms : List P2} {k : Nat} (h : ms.length = k + 1) : (SW W T ms).next now id 5 = SW W T (ms ++ [⟨id, 0⟩]) := by
  unfold CO.next; rw [SW_full h]
  simp only [CO.more, CO.zs1, CO.ms1, CO.due1, SW_opn h]
  rfl
theorem SW_step {W T now id : Int} {ms : List P2} {k : Nat} (h : ms.length = k + 1) : (SW W T ms).step now id 5 = ⟨false, false, 0, [], []⟩ := by
  unfold CO.step; rw [SW_full h, SW_opn h]; rfl
theorem SW_exp {W T now : Int} {ms : List P2} {k : Nat} (h : ms.length = k + 1) : (SW W T ms).exp now = decide (T + W ≤ now) := by
  unfold CO.exp; rw [SW_opn h, Bool.true_and]; rfl
/-- A command that comes to it. -/
theorem SW_add (b : Nat) (W T now id : Int) (ms : List P2) (k : Nat) (h : ms.length = k + 1) (w : World) (hc : Col w b (SW W T ms)) (hid : wf64 id) (hk : k ≤ 100) (hW0 : 0 ≤ W) (hW1 : W ≤ 70000) (h0 : 0 ≤ now) (h1 : now ≤ 18446744073709551615) :
    Calls Try.prog 30 #[.pointer (some ⟨b, 0, none⟩), .int .u64 now, .int .i64 id, .int .i64 5] w fun r w' => ∃ A c M d, r = .returned (stepC false false 0 A 0 c M 0 d) ∧ Col w' b (SW W T (ms ++ [⟨id, 0⟩])) ∧ Frm (· = b) w w' := by
  refine (cadd_is b (SW W T ms) now id 5 w hc hid (by show 1 ≤ 1000; decide) (by show ms.length ≤ 1000; omega) hW0 (by show W ≤ _; omega) h0 h1 (y := false) (z := false) (E := 0) (S' := SW W T (ms ++ [⟨id, 0⟩])) (zs := []) (ms := []) (n := 0) (m := 0) (by rw [SW_opn h]; rfl) (SW_full h) (by rw [SW_step h]) (SW_next h) (by rw [SW_step h]) (by rw [SW_step h]) rfl rfl).mono ?_
  rintro r w' ⟨A, c, M, d, rfl, h1, _, _, hf⟩
  exact ⟨A, c, M, d, rfl, h1, hf⟩
theorem addS_small {a b : Int} (h : a + b ≤ 18446744073709551615) : addS a b = a + b := if_pos h
theorem SW_early {W T : Int} {ms : List P2} {k : Nat} (h : ms.length = k + 1) {x : Int} (hx : x < T + W) : (SW W T ms).exp x = false := by rw [SW_exp h]; exact decide_eq_false (by omega)
theorem SW_late {W T : Int} {ms : List P2} {k : Nat} (h : ms.length = k + 1) {x : Int} (hx : T + W ≤ x) : (SW W T ms).exp x = true := by rw [SW_exp h]; exact decide_eq_true hx
theorem wait_no {S : CO} {x : Int} (h : S.exp x = false) : S.wait x = S := by unfold CO.wait; rw [h]; rfl
theorem wait_yes {S : CO} {x : Int} (h : S.exp x = true) : S.wait x = S.shut := by unfold CO.wait; rw [h]; rfl
/-- A window that is not open: who comes opens it. -/
theorem SN_add (b : Nat) (W now id F : Int) (w : World) (hc : Col w b ⟨W, 2, [], [], 0⟩) (hid : wf64 id) (hW0 : 0 ≤ W) (hW1 : W ≤ 70000) (h0 : 0 ≤ now) (h1 : now ≤ 1000000000000) (hF : now + W = F) :
    Calls Try.prog 30 #[.pointer (some ⟨b, 0, none⟩), .int .u64 now, .int .i64 id, .int .i64 5] w fun r w' => ∃ A c M d, r = .returned (stepC true false F A 0 c M 0 d) ∧ Col w' b ⟨W, 2, [5], [⟨id, 0⟩], F⟩ ∧ Frm (· = b) w w' := by
  have e : addS now W = F := (addS_small (by omega)).trans hF
  refine (cadd_is b ⟨W, 2, [], [], 0⟩ now id 5 w hc hid (Nat.zero_le _) (Nat.zero_le _) hW0 (by show W ≤ _; omega) h0 (by omega) (y := true) (z := false) (E := F) (S' := ⟨W, 2, [5], [⟨id, 0⟩], F⟩) (zs := []) (ms := []) (n := 0) (m := 0) rfl rfl e (by rw [← e]; rfl) rfl rfl rfl rfl).mono ?_
  rintro r w' ⟨A, c, M, d, rfl, h1, _, _, hf⟩
  exact ⟨A, c, M, d, rfl, h1, hf⟩
theorem cap20 (l : Nat) : ∃ n : Nat, n ≤ l ∧ n ≤ 20 ∧ (n < 20 → n = l) ∧ (if (l : Int) < 20 then (l : Int) else 20) = n := ⟨if 20 < l then 20 else l, by split <;> omega, by split <;> omega, by split <;> omega, by split <;> split <;> omega⟩

set_option maxRecDepth 100000 in
set_option maxHeartbeats 2000000 in
theorem walk (w : World) (a0 : Int) (w0 : (Lit.int .u16 a0).wf = true) (a1 : Int) (w1 : (Lit.int .u32 a1).wf = true) (a2 : Option Addr) (l2 k2 : Nat) (L2 : List (List Value)) (w2 : SliceIn w [.int .i64, .int .i64, .int .i64, .int .u64] 32 a2 l2 k2 L2) :
    Calls Try.prog 7 #[.int .u16 a0, .int .u32 a1, .slice a2 l2 k2] w fun e w' => e = .returned (.bool true) ∧ Below w.heap.size w w' := by
  obtain ⟨V, hrow, hfit, hlk, hkm⟩ := deeds_in w2
  obtain ⟨n, hn1, hn2, hn3, hmin⟩ := cap20 l2
  have hml := hrow.2.1
  unfold maxLen at hml
  obtain ⟨u0, u0'⟩ := bounds_u16 w0
  obtain ⟨u1, u1'⟩ := bounds_u32 w1
  obtain ⟨W, hW⟩ : ∃ W, 1 + a0 = W := ⟨_, rfl⟩
  obtain ⟨F, hF⟩ : ∃ F, a1 + W = F := ⟨_, rfl⟩
  obtain ⟨F2, hF2⟩ : ∃ F2, a1 + 2 * W = F2 := ⟨_, rfl⟩
  have hW1 : 1 ≤ W := by omega
  have hW2 : W ≤ 65536 := by omega
  have hFF : F + W = F2 := by omega
  have FF := Lib.hid hFF
  have HF1 := Lib.hid hF
  have HR := Lib.hid hrow
  have HF := Lib.hid hfit
  have HM := Lib.hid hmin
  clear w0 w1 w2 hrow hfit hlk hkm hFF hmin
  go_enter Try.func7, Try.ntmps7
  go_wp2_with fail
  refine (awake14_any w).mono ?_
  rintro r wa ⟨rfl, ba⟩
  have LA := Lib.hid ba
  clear ba
  go_wp2_with fail
  refine (new_col W 2 wa (by omega) (decide_eq_true ⟨hW1, by omega, by decide, by decide⟩)).mono ?_
  rintro r v1 ⟨rfl, h1, b1⟩
  have C1 := Lib.hid h1
  have L1 := Lib.hid (LA.out.trans (b1.mono LA.out.size))
  have GB : Hid (w.heap.size ≤ wa.heap.size) := Lib.hid LA.out.size
  clear h1 b1 LA
  go_wp2_with fail
  generalize wa.heap.size = b at *
  refine (SN_add b W a1 1 F v1 C1.out wfk1 (by omega) (by omega) u1 (by omega) HF1.out).mono ?_
  rintro r v2 ⟨A0, c0, M0, d0, rfl, h2, f2⟩
  have C2 := Lib.hid (h2.below (below_alloc v2 (stepO true false F A0 0 c0 M0 0 d0)))
  have f2' := f2.then_below (below_alloc v2 (stepO true false F A0 0 c0 M0 0 d0))
  have L2 := Lib.hid (L1.out.trans (f2'.below L1.out.size (fun j hj e => by have := GB.out; omega)))
  have K2 := Lib.hid (heap_alloc_at v2 (stepO true false F A0 0 c0 M0 0 d0))
  have NK : Hid (v2.heap.size ≠ b) := Lib.hid (by obtain ⟨_, _, _, _, _, _, h⟩ := h2; have := h.lt; omega)
  clear C1 L1 h2 f2 f2'
  go_wp2
  generalize v2.alloc (stepO true false F A0 0 c0 M0 0 d0) = v3 at *
  generalize v2.heap.size = g at *
  go_loopg [12] n (fun q v12 wr => ∃ (i : Nat) (ms : List P2), i + q = n ∧ v12 = .int .i64 i ∧ ms.length = i + 1 ∧ Col wr b (SW W a1 ms) ∧ Below w.heap.size w wr ∧ wr.heap[g]? = some (stepO true false F A0 0 c0 M0 0 d0))
  case atStart => exact ⟨0, [⟨1, 0⟩], by omega, rfl, rfl, by unfold SW; rw [HF1.out]; exact C2.out, L2.out, K2.out⟩
  case round =>
    obtain ⟨i, ms, hq, rfl, hms, hcol, hlow, hk⟩ := hrel
    have G := Lib.hid hq
    have MS := Lib.hid hms
    have CC := Lib.hid hcol
    have LL := Lib.hid hlow
    have KK := Lib.hid hk
    clear hq hms hcol hlow hk C2 L2 K2
    by_cases hin : i < n
    · have hi1 : (i : Int) < l2 := by omega
      have hi2 : (i : Int) < 20 := by omega
      obtain ⟨rb, off, d, rfl, hd, hlt, q0, q1, q2, q3⟩ := (HR.out.later LL.out).deed_at (i := i) (by omega)
      have DF := Lib.hid (HF.out d (List.mem_of_getElem? hd))
      have t0 := DF.out.2.2.2.1
      have t1 := DF.out.2.2.2.2
      obtain ⟨e, he⟩ : ∃ e, d.t.tmod W = e := ⟨_, rfl⟩
      have he' : d.t % W = e := by rw [← he]; exact (Int.tmod_eq_emod_of_nonneg t0).symm
      have e0 : 0 ≤ e := by rw [← he']; exact Int.emod_nonneg _ (by omega)
      have e1 : e < W := by rw [← he']; exact Int.emod_lt_of_pos _ (by omega)
      have hW0 : (W == 0) = false := by simp; omega
      clear hd hlt q0 q1 q2
      go_wp2_with fail
      refine (SW_add b W a1 (a1 + e) (2 + i) ms i MS.out wr CC.out (wf64_lit (by omega) (by omega)) (by omega) (by omega) (by omega) (by omega) (by omega)).mono ?_
      rintro r v4 ⟨A4, c4, M4, d4, rfl, h4, f4⟩
      have C4 := Lib.hid (h4.below (below_alloc v4 (stepO false false 0 A4 0 c4 M4 0 d4)))
      have f4' := f4.then_below (below_alloc v4 (stepO false false 0 A4 0 c4 M4 0 d4))
      have L4 := Lib.hid (LL.out.trans (f4'.below LL.out.size (fun j hj e => by have := GB.out; omega)))
      have K4 := Lib.hid (carry f4' KK.out NK.out)
      clear h4 f4 f4' CC LL KK q3
      go_wp2
      go_roundg (n - (i + 1))
      case measure => have := G.out; omega
      case rel => exact ⟨i + 1, ms ++ [⟨2 + i, 0⟩], by omega, by simp, by simp [MS.out], C4.out, L4.out, K4.out⟩
    · have hex : ((i : Int) < l2 ∧ ¬ (i : Int) < 20) ∨ ¬ (i : Int) < l2 := by have := G.out; omega
      have hii : i = n := by have := G.out; omega
      subst hii
      obtain ⟨m', hm'⟩ : ∃ m' : Nat, i + 1 = m' := ⟨_, rfl⟩
      have hm2 : 1 + (i : Int) = m' := by omega
      have M1 := Lib.hid (MS.out.trans hm')
      have X1 := Lib.hid (SW_early (T := a1) (W := W) MS.out (x := F - 1) (by have := HF1.out; omega))
      have X2 := Lib.hid (SW_late (T := a1) (W := W) MS.out (x := F) (by have := HF1.out; omega))
      have hmin := HM.out
      clear hm' HR HF
      rcases hex with ⟨h1, h2⟩ | h1
      all_goals
        go_wp2_with fail
        refine (cexp_is b (SW W a1 ms) (F - 1) wr CC.out (y := false) (S' := SW W a1 ms) (zs := []) (ms := []) (n := 0) (m := 0) X1.out (wait_no X1.out) rfl rfl rfl rfl).mono ?_
        rintro r v4 ⟨A4, c4, M4, d4, rfl, h4, _, _, f4⟩
        have C4 := Lib.hid (h4.below (below_alloc v4 (bobj 31 A4 0 c4 M4 0 d4)))
        have f' := f4.then_below (below_alloc v4 (bobj 31 A4 0 c4 M4 0 d4))
        have L4 := Lib.hid (LL.out.trans (f'.below LL.out.size (fun j hj e => by have := GB.out; omega)))
        have K4 := Lib.hid (carry f' KK.out NK.out)
        clear CC LL h4 f4 f' KK
        go_wp2_with fail
        generalize v4.alloc (bobj 31 A4 0 c4 M4 0 d4) = v5 at *
        refine (cexp_is b (SW W a1 ms) F v5 C4.out (y := true) (S' := ⟨W, 2, [], [], 0⟩) (zs := [5]) (ms := ms) (n := 1) (m := m') X2.out (wait_yes X2.out) rfl rfl rfl M1.out).mono ?_
        rintro r v6 ⟨A6, c6, M6, d6, rfl, h6, _, _, f6⟩
        have C6 := Lib.hid (h6.below (below_alloc v6 (bobj 31 A6 1 c6 M6 m' d6)))
        have f' := f6.then_below (below_alloc v6 (bobj 31 A6 1 c6 M6 m' d6))
        have L6 := Lib.hid (L4.out.trans (f'.below L4.out.size (fun j hj e => by have := GB.out; omega)))
        have K5 := Lib.hid (carry f' K4.out NK.out)
        have Q6 := Lib.hid (heap_alloc_at v6 (bobj 31 A6 1 c6 M6 m' d6))
        have NQ : Hid (v6.heap.size ≠ b) := Lib.hid (by obtain ⟨_, _, _, _, _, _, h⟩ := h6; have := h.lt; omega)
        clear C4 L4 h6 f6 f' K4
        go_wp2_with fail
        generalize v6.alloc (bobj 31 A6 1 c6 M6 m' d6) = v7 at *
        refine (cexp_is b ⟨W, 2, [], [], 0⟩ F v7 C6.out (y := false) (S' := ⟨W, 2, [], [], 0⟩) (zs := []) (ms := []) (n := 0) (m := 0) rfl rfl rfl rfl rfl rfl).mono ?_
        rintro r v8 ⟨A8, c8, M8, d8, rfl, h8, _, _, f8⟩
        have C8 := Lib.hid (h8.below (below_alloc v8 (bobj 31 A8 0 c8 M8 0 d8)))
        have f' := f8.then_below (below_alloc v8 (bobj 31 A8 0 c8 M8 0 d8))
        have L8 := Lib.hid (L6.out.trans (f'.below L6.out.size (fun j hj e => by have := GB.out; omega)))
        have K7 := Lib.hid (carry f' K5.out NK.out)
        have Q7 := Lib.hid (carry f' Q6.out NQ.out)
        clear C6 L6 h8 f8 f' K5 Q6
        go_wp2_with fail
        generalize v8.alloc (bobj 31 A8 0 c8 M8 0 d8) = v9 at *
        refine (SN_add b W F 100 F2 v9 C8.out (wf64_lit (by decide) (by decide)) (by omega) (by omega) (by omega) (by omega) FF.out).mono ?_
        rintro r vt ⟨At, ct, Mt, dt, rfl, ht, ft⟩
        have Ct := Lib.hid (ht.below (below_alloc vt (stepO true false F2 At 0 ct Mt 0 dt)))
        have f' := ft.then_below (below_alloc vt (stepO true false F2 At 0 ct Mt 0 dt))
        have Lt := Lib.hid (L8.out.trans (f'.below L8.out.size (fun j hj e => by have := GB.out; omega)))
        have K9 := Lib.hid (carry f' K7.out NK.out)
        have Q9 := Lib.hid (carry f' Q7.out NQ.out)
        have R9 := Lib.hid (heap_alloc_at vt (stepO true false F2 At 0 ct Mt 0 dt))
        have NR : Hid (vt.heap.size ≠ b) := Lib.hid (by obtain ⟨_, _, _, _, _, _, h⟩ := ht; have := h.lt; omega)
        clear C8 L8 ht ft f' K7 Q7
        have x0 : (vt.alloc (stepO true false F2 At 0 ct Mt 0 dt)).cell? ⟨g, 0, none⟩ = some (.bool true) := cell_of K9.out 0
        have x1 : (vt.alloc (stepO true false F2 At 0 ct Mt 0 dt)).cell? ⟨g, 2, none⟩ = some (.int .u64 F) := cell_of K9.out 2
        have x2 : (vt.alloc (stepO true false F2 At 0 ct Mt 0 dt)).cell? ⟨vt.heap.size, 0, none⟩ = some (.bool true) := cell_of R9.out 0
        have x3 : (vt.alloc (stepO true false F2 At 0 ct Mt 0 dt)).cell? ⟨vt.heap.size, 2, none⟩ = some (.int .u64 F2) := cell_of R9.out 2
        have x4 : (vt.alloc (stepO true false F2 At 0 ct Mt 0 dt)).cell? ⟨v6.heap.size, 0, none⟩ = some (.slice A6 1 c6) := cell_of Q9.out 0
        have x5 : (vt.alloc (stepO true false F2 At 0 ct Mt 0 dt)).cell? ⟨v6.heap.size, 1, none⟩ = some (.slice M6 m' d6) := cell_of Q9.out 1
        clear K9 Q9 R9 NQ NR Ct
        go_wp2
        go_ret
        exact ⟨rfl, Lt.out⟩

set_option maxRecDepth 100000 in
theorem lifted (os : Os) (started : os.Started) (H : Type) (enc : TypeId × Value → H) :
    ReturnsInHanded {} Try.checked os 7 .any (Rows.collWindowSpec.pre6 enc Try.prog Try.f7 Rows.collWindowRow.domain false) (Rows.collWindowSpec.post enc Try.prog Try.f7 false true false false) := by
  refine returnsInHanded_of_change_sized (C := Try.checked) own started (by kernel_rfl) Try.func7
    (ChangeSpec.witness6 (enc := enc) (C := Try.checked) false ⟨#[], #[.int .u16 0, .int .u32 0, .slice none 0 0], []⟩ 8 (by kernel_rfl) (by kernel_rfl) (by kernel_rfl) (by kernel_rfl)) ?_
  intro W base args ds gs before hval0 hW hcnd hsz0 _
  have hval : ∀ (j : Nat) t v, Try.f7.params[j]? = some t → args[j]? = some v → Value.okWide Try.prog W .any base t v := hval0
  have hsz : (DataW.weightsEach Try.prog (Try.f7.params.toList ++ Rows.collWindowSpec.plain.varTypes Try.prog) (ds ++ gs)).all (· ≤ reachBytes) = true := hsz0
  have hW' := hW
  obtain ⟨p, q, hA0, hV, rfl, hfz, hnd⟩ := hW
  have hA : DataW.TrodAll enc Try.prog W 0 (fun _ => true) true Try.f7.params.toList args.toList ds p := hA0
  rw [Try.params7] at hA hval hsz
  have hAk := hA
  obtain ⟨v0, vs0, d0, ds0, p0, q0, hargs, rfl, rfl, h0, r0⟩ := trodAll_cons hA
  obtain ⟨v1, vs1, d1, ds1, p1, q1, rfl, rfl, rfl, h1, r1⟩ := trodAll_cons r0
  obtain ⟨v2, vs2, d2, ds2, p2, q2, rfl, rfl, rfl, h2, r2⟩ := trodAll_cons r1
  obtain ⟨rfl, rfl, rfl⟩ := trodAll_nil r2
  obtain rfl : args = #[v0, v1, v2] := by cases args; simp_all
  obtain ⟨rfl, rfl⟩ := trodVars_none hV
  obtain ⟨a0, rfl, rfl, rfl, w0⟩ := open_int Try.underlying86 (hval 0 86 v0 rfl rfl) h0
  obtain ⟨a1, rfl, rfl, rfl, w1⟩ := open_int Try.underlying87 (hval 1 87 v1 rfl rfl) h1
  obtain ⟨a2, l2, k2, L2, rfl, w2⟩ := open_slice_flat (ks := [.int .i64, .int .i64, .int .i64, .int .u64]) (bytes := 32) 8 Try.underlying61 (by kernel_rfl) (by kernel_rfl) (by decide) (by kernel_rfl) (hval 2 61 v2 rfl rfl) h2 (fun elems rest hd => by subst hd; exact sized_slice hsz (j := 2) (t := 61) (e := 70) rfl rfl Try.underlying61)
  clear hA0 hval0 hsz0
  refine (walk W a0 w0 a1 w1 a2 l2 k2 L2 w2).mono fun e W' ⟨he, bel⟩ => ?_
  subst he
  exact ⟨_, rfl, _, _, _, [], _, [], hW', trodAll_mk1 (shut_bool Try.underlying4 _), trodAll_below laidOut bel _ _ _ _ (by kernel_rfl) hAk, rfl, bel.frame _, fun h => by cases h⟩

theorem over : Rows.collWindowRow.holds Try.pinned (OpenSpec.ofChange Rows.collWindowSpec) :=
  OpenClaim.holds_of_wide 7 Try.f7 rfl rfl rfl rfl rfl rfl rfl ⟨rfl, rfl, rfl, rfl, rfl⟩ rfl rfl rfl rfl rfl (by kernel_rfl) Try.func7 (by kernel_rfl)
    (of_decide_eq_true (by kernel_rfl)) (by unfold Func.isWrapper; first | (rw [if_pos (by decide +kernel)]; kernel_rfl) | (rw [if_neg (by decide +kernel)]; exact ⟨rfl, rfl⟩))
    (fun os started H enc _ => lifted os started H enc)

theorem proved : Rows.CollWindowSaid := over
#print axioms proved
end Go.Proofs.Ythldhcjkjchbpaa.collWindow
