/- What is proved: CallOuts of porpoiselaw15 answers true for every input, and leaves its arguments as they were; conditions: those of the given row alone. -/
import Derived.Test.YtpfmjocpgnoepaaKit
import Derived.Test.YtpfmjocpgnoepaaRef15d
import Derived.Test.YtpfmjocpgnoepaaOuts2
namespace Go.Proofs.Ytpfmjocpgnoepaa.callOuts
open Go.ChangeShapes Go.WideShapes Go.ChangeAt Go.RowKit Go.Deep
open Go.ChangeMaps (open_string shut_string)
set_option linter.unusedVariables false

theorem own : ownKnob Try.prog.godebug = none := by kernel_rfl
theorem laidOut : laidOutB Try.prog = true := by kernel_rfl

theorem getD_wf {vs : List Int} (h : ∀ z ∈ vs, wf64 z) (i : Nat) : wf64 (vs.getD i 0) := by
  rw [List.getD_eq_getElem?_getD]
  cases hi : vs[i]? with
  | none => exact wf64_lit (k := 0) (by decide) (by decide)
  | some z => exact h z (List.mem_of_getElem? hi)
theorem outsL_fits {zs : List Int} {ms : List P2} {K : CN} {kind : Int} {vs : List Int} {t : Int} (hm : ∀ x ∈ ms, x.Fits) (hv : ∀ z ∈ vs, wf64 z) (hK : K.Fits) (hk : wf64 kind) (ht : 0 ≤ t ∧ t ≤ 18446744073709551615) : ∀ x ∈ outsL zs ms K kind vs t, x.Fits := by
  have z0 : wf64 0 := wf64_lit (k := 0) (by decide) (by decide)
  have hs : ∀ (o : Ot), wf64 o.kind → wf64 o.cause → (0 ≤ o.tm ∧ o.tm ≤ 18446744073709551615) → ∀ x ∈ toldL o (splitL zs ms vs), x.Fits := by
    intro o h1 h2 h3 x hx
    cases hy : splitY zs ms vs with
    | false => rw [toldL_none hy] at hx; cases hx
    | true =>
      rw [toldL_split hy] at hx
      obtain ⟨p, hp, rfl⟩ := List.mem_map.1 hx
      exact ⟨(hm p hp).1, h1, h2, getD_wf hv _, h3⟩
  intro x hx
  unfold outsL at hx
  split at hx
  · exact hs ⟨0, kind, 0, 0, t⟩ hk z0 ht x hx
  · split at hx
    · exact hs ⟨0, kind, K.ca, 0, t⟩ hk hK.ca ht x hx
    · split at hx
      · obtain ⟨p, hp, rfl⟩ := List.mem_map.1 hx
        exact ⟨(hm p hp).1, hk, hK.ca, z0, ht⟩
      · cases hx

set_option maxRecDepth 100000 in
set_option maxHeartbeats 2000000 in
theorem walk (w : World) (c0 : Array Value) (w0 : Shp w [.row [.int .i64] 8, .row [.int .i64, .int .i64] 16, .lit (.int .i64), .lit (.int .i64), .lit (.int .i64), .lit (.int .u64)] c0.toList) (a1 : Int) (w1 : (Lit.int .i64 a1).wf = true) (a2 : Option Addr) (l2 k2 : Nat) (L2 : List (List Value)) (w2 : SliceIn w [.int .i64] 8 a2 l2 k2 L2) :
    Calls Try.prog 4 #[.agg c0, .int .i64 a1, .slice a2 l2 k2] w fun e w' => e = .returned (.bool true) ∧ Below w.heap.size w w' := by
  obtain ⟨A, n, k, M, m, d, K, zs, ms, rfl, hB, hF, hZ⟩ := call_in w0
  obtain ⟨vs, hv, hvf, _, _⟩ := ints_in w2
  have hl2 := hv.1
  have HFT := Lib.hid (outsL_fits (zs := zs) (K := K) (kind := a1) (t := K.tm) hB.fits hvf hF (bounds_i64 w1) hF.tm)
  obtain ⟨W, hW⟩ : ∃ W, w.alloc (.cells #[.slice A n k, .slice M m d, .int .i64 K.st, .int .i64 K.sp, .int .i64 K.ca, .int .u64 K.tm] 28) = W := ⟨_, rfl⟩
  have HW := Lib.hid hW
  have k0 : W.heap[w.heap.size]? = some (vobj 28 (kvals A n k M m d K)) := by rw [← hW]; exact heap_alloc_at w (vobj 28 (kvals A n k M m d K))
  have b0 : Below w.heap.size w W := by rw [← hW]; exact below_alloc w _
  have K0 := Lib.hid k0
  have B0 := Lib.hid b0
  have HB := Lib.hid hB
  have HV := Lib.hid hv
  clear w0 w1 w2 hW k0 b0 hB hv hF hZ hvf
  go_enter Try.func4, Try.ntmps4
  go_wp2_with fail
  rw [HW.out]
  refine (awake15_any W).mono ?_
  rintro r wa ⟨rfl, ba⟩
  have BA := Lib.hid (B0.out.trans (ba.mono B0.out.size))
  have KA := Lib.hid (kb_below K0.out ba)
  obtain ⟨q0, q1, q2, q3, q4, q5⟩ := kobj_cells KA.out
  clear ba HW K0 B0
  go_wp2_with fail
  refine (few15_any A n k M m d wa).mono ?_
  rintro r wb ⟨rfl, bb⟩
  have BB := Lib.hid (BA.out.trans (bb.mono BA.out.size))
  have KB := Lib.hid (kb_below KA.out bb)
  clear q0 q1 q2 q3 q4 q5 bb KA BA
  by_cases hf : n ≤ 50 ∧ m ≤ 50
  case neg =>
    rw [decide_eq_false hf]
    clear hf
    go_wp2
    go_ret
    exact ⟨rfl, BB.out⟩
  case pos =>
    have hm : m ≤ 1000 := by omega
    rw [decide_eq_true hf]
    by_cases hl : l2 ≤ 60
    case neg =>
      have hl' : decide ((60 : Int) < (l2 : Int)) = true := by simp; omega
      clear hf hm hl
      go_wp2
      go_ret
      exact ⟨rfl, BB.out⟩
    case pos =>
      have hl' : decide ((60 : Int) < (l2 : Int)) = false := by simp; omega
      clear hf hl
      go_wp2
      have hs : ∀ wx, Below wb.heap.size wb wx → wx.cell? ⟨w.heap.size, 0, none⟩ = some (.slice A n k) ∧ wx.cell? ⟨w.heap.size, 1, none⟩ = some (.slice M m d) ∧ wx.cell? ⟨w.heap.size, 2, none⟩ = some (.int .i64 K.st) ∧ wx.cell? ⟨w.heap.size, 3, none⟩ = some (.int .i64 K.sp) ∧ wx.cell? ⟨w.heap.size, 4, none⟩ = some (.int .i64 K.ca) ∧ wx.cell? ⟨w.heap.size, 5, none⟩ = some (.int .u64 K.tm) := fun wx hb => kobj_cells (kb_below KB.out hb)
      have HS := Lib.hid hs
      have h1 : ∀ wx, Below wb.heap.size wb wx → Calls Try.prog 15 #[callV A n k M m d K] wx fun r w' => ∃ M' d', r = .returned (callV A n k M' m d' K) ∧ Bat w' A n k M' m d' zs ms ∧ Below wx.heap.size wx w' := fun wx hb => made15_any A n k M m d K zs ms wx (HB.out.below (BB.out.trans (hb.mono BB.out.size))) hm
      have h2 : ∀ M' d' wx, Bat wx A n k M' m d' zs ms → Below wb.heap.size wb wx → Calls Try.prog 25 #[callV A n k M' m d' K, .int .i64 a1, .slice a2 l2 k2, .int .u64 K.tm] wx fun r w' => ∃ P q f, r = .returned (.slice P q f) ∧ RowR orec w' P q (outsL zs ms K a1 vs K.tm) ∧ Below wx.heap.size wx w' := fun M' d' wx h hb => kouts_any A n k M' m d' K zs ms a1 a2 l2 k2 vs K.tm wx h (HV.out.later (BB.out.trans (hb.mono BB.out.size))) hm
      have h3 : ∀ wx, Below wb.heap.size wb wx → Calls Try.prog 26 #[callV A n k M m d K, .int .i64 a1, .slice a2 l2 k2, .int .u64 K.tm] wx fun r w' => ∃ P q f, r = .returned (.slice P q f) ∧ RowR orec w' P q (outsL zs ms K a1 vs K.tm) ∧ Below wx.heap.size wx w' := fun wx hb => routs15_any A n k M m d K zs ms a1 a2 l2 k2 vs K.tm wx (HB.out.below (BB.out.trans (hb.mono BB.out.size))) (HV.out.later (BB.out.trans (hb.mono BB.out.size))) hm
      have h4 : ∀ P q f P' q' f' wx, RowR orec wx P q (outsL zs ms K a1 vs K.tm) → RowR orec wx P' q' (outsL zs ms K a1 vs K.tm) → Calls Try.prog 24 #[.slice P q f, .slice P' q' f'] wx fun r w' => r = .returned (.bool true) ∧ Below wx.heap.size wx w' := fun P q f P' q' f' wx r1 r2 => by
        have := osame_any P P' q f q' f' _ _ wx r1 r2 HFT.out HFT.out
        rwa [decide_eq_true rfl] at this
      have H1 := Lib.hid h1
      have H2 := Lib.hid h2
      have H3 := Lib.hid h3
      have H4 := Lib.hid h4
      have D0 : Hid (Below wb.heap.size wb wb.drew) := Lib.hid (ali_below (drew_ali _))
      clear hs h1 h2 h3 h4 HFT HV HB KB hm
      go_region_held3 (fun wx => wx.cell? ⟨w.heap.size, 0, none⟩ = some (.slice A n k) ∧ wx.cell? ⟨w.heap.size, 1, none⟩ = some (.slice M m d) ∧ wx.cell? ⟨w.heap.size, 2, none⟩ = some (.int .i64 K.st) ∧ wx.cell? ⟨w.heap.size, 3, none⟩ = some (.int .i64 K.sp) ∧ wx.cell? ⟨w.heap.size, 4, none⟩ = some (.int .i64 K.ca) ∧ wx.cell? ⟨w.heap.size, 5, none⟩ = some (.int .u64 K.tm))
        (first
          | with_reducible exact HS.out _ D0.out
          | with_reducible exact HS.out _ t1
          | with_reducible exact HS.out _ t2
          | with_reducible exact HS.out _ t3
          | with_reducible exact HS.out _ t4)
        (first
          | (go_at_call 24; refine (H4.out P q f P' q' f' _ R2.out r3).mono ?_; rintro r w4 ⟨rfl, b4⟩; have t4 := t3.trans (b4.mono t3.size))
          | (go_at_call 26; refine (H3.out _ t2).mono ?_; rintro r w3 ⟨P', q', f', rfl, r3, b3⟩; have t3 := t2.trans (b3.mono t2.size); have R2 := Lib.hid (r2.later b3))
          | (go_at_call 25; refine (H2.out M' d' _ g1 t1).mono ?_; rintro r w2 ⟨P, q, f, rfl, r2, b2⟩; have t2 := t1.trans (b2.mono t1.size))
          | (go_at_call 15; refine (H1.out _ D0.out).mono ?_; rintro r w1 ⟨M', d', rfl, g1, b1⟩; have t1 := D0.out.trans (b1.mono D0.out.size)))
      have T4 := Lib.hid t4
      clear t1 t2 t3 t4 b1 b2 b3 b4 g1 r2 r3
      go_wp2
      go_ret
      exact ⟨rfl, BB.out.trans (T4.out.mono BB.out.size)⟩

set_option maxRecDepth 100000 in
theorem lifted (os : Os) (started : os.Started) (H : Type) (enc : TypeId × Value → H) :
    ReturnsInHanded {} Try.checked os 4 .any (Rows.callOutsSpec.pre6 enc Try.prog Try.f4 Rows.callOutsRow.domain false) (Rows.callOutsSpec.post enc Try.prog Try.f4 false true false false) := by
  refine returnsInHanded_of_change_sized (C := Try.checked) own started (by kernel_rfl) Try.func4
    (ChangeSpec.witness6 (enc := enc) (C := Try.checked) false ⟨#[], #[.agg #[.slice none 0 0, .slice none 0 0, .int .i64 0, .int .i64 0, .int .i64 0, .int .u64 0], .int .i64 0, .slice none 0 0], []⟩ 8 (by kernel_rfl) (by kernel_rfl) (by kernel_rfl) (by kernel_rfl)) ?_
  intro W base args ds gs before hval0 hW hcnd hsz0 _
  have hval : ∀ (j : Nat) t v, Try.f4.params[j]? = some t → args[j]? = some v → Value.okWide Try.prog W .any base t v := hval0
  have hsz : (DataW.weightsEach Try.prog (Try.f4.params.toList ++ Rows.callOutsSpec.plain.varTypes Try.prog) (ds ++ gs)).all (· ≤ reachBytes) = true := hsz0
  have hW' := hW
  obtain ⟨p, q, hA0, hV, rfl, hfz, hnd⟩ := hW
  have hA : DataW.TrodAll enc Try.prog W 0 (fun _ => true) true Try.f4.params.toList args.toList ds p := hA0
  rw [Try.params4] at hA hval hsz
  have hAk := hA
  obtain ⟨v0, vs0, d0, ds0, p0, q0, hargs, rfl, rfl, h0, r0⟩ := trodAll_cons hA
  obtain ⟨v1, vs1, d1, ds1, p1, q1, rfl, rfl, rfl, h1, r1⟩ := trodAll_cons r0
  obtain ⟨v2, vs2, d2, ds2, p2, q2, rfl, rfl, rfl, h2, r2⟩ := trodAll_cons r1
  obtain ⟨rfl, rfl, rfl⟩ := trodAll_nil r2
  obtain rfl : args = #[v0, v1, v2] := by cases args; simp_all
  obtain ⟨rfl, rfl⟩ := trodVars_none hV
  obtain ⟨c0, rfl, w0⟩ := open_shape (ss := [.row [.int .i64] 8, .row [.int .i64, .int .i64] 16, .lit (.int .i64), .lit (.int .i64), .lit (.int .i64), .lit (.int .u64)]) 8 (by kernel_rfl) (by kernel_rfl) (hval 0 28 v0 rfl rfl) h0 hsz 0 rfl rfl
  obtain ⟨a1, rfl, rfl, rfl, w1⟩ := open_int Try.underlying3 (hval 1 3 v1 rfl rfl) h1
  obtain ⟨a2, l2, k2, L2, rfl, w2⟩ := open_slice_flat (ks := [.int .i64]) (bytes := 8) 8 Try.underlying22 (by kernel_rfl) (by kernel_rfl) (by decide) (by kernel_rfl) (hval 2 22 v2 rfl rfl) h2 (fun elems rest hd => by subst hd; exact sized_slice hsz (j := 2) (t := 22) (e := 3) rfl rfl Try.underlying22)
  clear hA0 hval0 hsz0
  refine (walk W c0 w0 a1 w1 a2 l2 k2 L2 w2).mono fun e W' ⟨he, bel⟩ => ?_
  subst he
  exact ⟨_, rfl, _, _, _, [], _, [], hW', trodAll_mk1 (shut_bool Try.underlying4 _), trodAll_below laidOut bel _ _ _ _ (by kernel_rfl) hAk, rfl, bel.frame _, fun h => by cases h⟩

theorem over : Rows.callOutsRow.holds Try.pinned (OpenSpec.ofChange Rows.callOutsSpec) :=
  OpenClaim.holds_of_wide 4 Try.f4 rfl rfl rfl rfl rfl rfl rfl ⟨rfl, rfl, rfl, rfl, rfl⟩ rfl rfl rfl rfl rfl (by kernel_rfl) Try.func4 (by kernel_rfl)
    (of_decide_eq_true (by kernel_rfl)) (by unfold Func.isWrapper; first | (rw [if_pos (by decide +kernel)]; kernel_rfl) | (rw [if_neg (by decide +kernel)]; exact ⟨rfl, rfl⟩))
    (fun os started H enc _ => lifted os started H enc)

theorem proved : Rows.CallOutsSaid := over
#print axioms proved
end Go.Proofs.Ytpfmjocpgnoepaa.callOuts
