/- What is proved: HealthOf of porpoiselaw16 answers true for every input, and leaves its arguments as they were; conditions: those of the given row alone. -/
import Derived.Test.YtfncipoiblieeaaKit
import Derived.Test.YtfncipoiblieeaaLaw16
import Derived.Test.YtfncipoiblieeaaRef16b
import Derived.Deep.RegionHeld3
namespace Go.Proofs.Ytfncipoiblieeaa.healthOf
open Go.ChangeShapes Go.WideShapes Go.ChangeAt Go.RowKit Go.Deep
open Go.ChangeMaps (open_string shut_string)
set_option linter.unusedVariables false

theorem own : ownKnob Try.prog.godebug = none := by kernel_rfl
theorem laidOut : laidOutB Try.prog = true := by kernel_rfl

theorem shape_flat {c : Array Value} (h : Flat [.int .i64, .int .u64] c.toList) : ∃ (B : Int) (W : Nat), c = #[.int .i64 B, .int .u64 W] ∧ wf64 B ∧ W ≤ 18446744073709551615 := by
  obtain ⟨x, y, rfl, hx, hy⟩ := h.two
  have := wf_u64 hy
  exact ⟨x, y.toNat, by rw [Int.toNat_of_nonneg this.1], bounds_i64 hx, by omega⟩

set_option maxRecDepth 100000 in
set_option maxHeartbeats 2000000 in
theorem walk (w : World) (a0 : Option Addr) (l0 k0 : Nat) (L0 : List (List Value)) (w0 : SliceIn w [.int .u64, .int .i64] 16 a0 l0 k0 L0) (a1 : Int) (w1 : (Lit.int .u64 a1).wf = true) (c2 : Array Value) (w2 : Flat [.int .i64, .int .u64] c2.toList) :
    Calls Try.prog 4 #[.slice a0 l0 k0, .int .u64 a1, .agg c2] w fun e w' => e = .returned (.bool true) ∧ Below w.heap.size w w' := by
  obtain ⟨V, hrow, hfit, _, _⟩ := evs_in w0
  have hn0 := wf_u64 w1
  obtain ⟨now, rfl⟩ : ∃ now : Nat, a1 = now := ⟨a1.toNat, by omega⟩
  obtain ⟨B, W, rfl, hB, hW⟩ := shape_flat w2
  clear w0 w1 w2
  obtain ⟨g, hg⟩ : ∃ g, w.heap.size = g := ⟨_, rfl⟩
  have HG := Lib.hid hg
  have hlm := hrow.2.1
  unfold maxLen at hlm
  have HR := Lib.hid hrow
  clear hrow
  go_enter Try.func4, Try.ntmps4
  go_wp2_with fail
  have hba := below_alloc w (.cells #[.int .i64 B, .int .u64 W] 34)
  have k1 := heap_alloc_at w (.cells #[.int .i64 B, .int .u64 W] 34)
  rw [hg] at hba k1
  generalize w.alloc (.cells #[.int .i64 B, .int .u64 W] 34) = w1 at *
  refine (awake16_any _).mono ?_
  rintro r w3 ⟨rfl, b3⟩
  have k3 := kb_below k1 b3
  have B3 := Lib.hid (hba.trans (b3.mono (by have := hba.size; omega : g ≤ w1.heap.size)))
  have z3 : g ≤ w3.heap.size := (by have := B3.out.size; omega)
  clear b3 k1 hba
  by_cases hlong : l0 > 200
  · have hlong' : (200 : Int) < (l0 : Int) := by omega
    clear HR
    go_wp2
    go_ret
    refine ⟨rfl, ?_⟩
    try rw [HG.out]
    exact B3.out
  · have hlong' : ¬ (200 : Int) < (l0 : Int) := by omega
    have hln : l0 ≤ 1000 := by omega
    have hKB := ofK_fits V now B W (by rw [HR.out.1]; omega)
    have HEQ := Lib.hid (fun v => eq5_yes hKB v)
    have R3 := Lib.hid (HR.out.later (by rw [hg]; exact B3.out))
    have HM := Lib.hid (fun v (b : Below w3.heap.size w3 v) => made16_any a0 l0 k0 V v (R3.out.later b) hln)
    have HO := Lib.hid (fun v A c (r : RowR erec v A l0 V) => of_any A l0 c V now B W v r hln (by omega) hB hW hfit)
    have HRO := Lib.hid (fun v (b : Below w3.heap.size w3 v) => rof_any a0 l0 k0 V now B W v (R3.out.later b) hln (by omega) hB hW hfit)
    obtain ⟨kv, hkv⟩ : ∃ kv, (ofK V now B W).vals = kv := ⟨_, rfl⟩
    rw [hkv] at HEQ HO HRO
    have HC : Hid (∀ v, Below w3.heap.size w3 v → v.cell? ⟨g, 0, none⟩ = some (.int .i64 B) ∧ v.cell? ⟨g, 1, none⟩ = some (.int .u64 W)) := Lib.hid (fun v hv => by
      have h := kb_below k3 hv
      exact ⟨by rw [cell_of h]; rfl, by rw [cell_of h]; rfl⟩)
    have D0 : Hid (Below w3.heap.size w3 w3.drew) := Lib.hid (ali_below (drew_ali _))
    have heq := HEQ.out
    obtain ⟨p0, p1⟩ := HC.out _ (Below.refl _ _)
    clear HR hkv k3 hKB hfit hB hn0 HEQ R3
    go_wp2
    go_region_held3 (fun wx => wx.cell? ⟨g, 0, none⟩ = some (.int .i64 B) ∧ wx.cell? ⟨g, 1, none⟩ = some (.int .u64 W))
      (first
        | with_reducible exact HC.out _ D0.out
        | with_reducible exact HC.out _ t6
        | with_reducible exact HC.out _ t5
        | with_reducible exact HC.out _ t4)
      (first
        | (go_at_call 20; refine (HRO.out _ t5).mono ?_; rintro r w6 ⟨rfl, b6⟩; have t6 := t5.trans (b6.mono t5.size); clear b6)
        | (go_at_call 18; refine (HO.out _ _ _ R4.out).mono ?_; rintro r w5 ⟨rfl, b5⟩; have t5 := t4.trans (b5.mono t4.size); clear b5)
        | (go_at_call 19; refine (HM.out _ D0.out).mono ?_; rintro r w4 ⟨A4, c4, rfl, r4, b4⟩; have t4 := D0.out.trans (b4.mono D0.out.size); have R4 := Lib.hid r4; clear r4 b4))
    go_wp2
    go_ret
    refine ⟨rfl, ?_⟩
    try rw [HG.out]
    exact B3.out.trans (t6.mono z3)

set_option maxRecDepth 100000 in
theorem lifted (os : Os) (started : os.Started) (H : Type) (enc : TypeId × Value → H) :
    ReturnsInHanded {} Try.checked os 4 .any (Rows.healthOfSpec.pre6 enc Try.prog Try.f4 Rows.healthOfRow.domain false) (Rows.healthOfSpec.post enc Try.prog Try.f4 false true false false) := by
  refine returnsInHanded_of_change_sized (C := Try.checked) own started (by kernel_rfl) Try.func4
    (ChangeSpec.witness6 (enc := enc) (C := Try.checked) false ⟨#[], #[.slice none 0 0, .int .u64 0, .agg #[.int .i64 0, .int .u64 0]], []⟩ 8 (by kernel_rfl) (by kernel_rfl) (by kernel_rfl) (by kernel_rfl)) ?_
  intro W base args ds gs before hval0 hW hcnd hsz0 _
  have hval : ∀ (j : Nat) t v, Try.f4.params[j]? = some t → args[j]? = some v → Value.okWide Try.prog W .any base t v := hval0
  have hsz : (DataW.weightsEach Try.prog (Try.f4.params.toList ++ Rows.healthOfSpec.plain.varTypes Try.prog) (ds ++ gs)).all (· ≤ reachBytes) = true := hsz0
  have hW' := hW
  obtain ⟨p, q, hA0, hV, rfl, hfz, hnd⟩ := hW
  have hA : DataW.TrodAll enc Try.prog W 0 (fun _ => true) true Try.f4.params.toList args.toList ds p := hA0
  rw [Try.params4] at hA hval hsz
  have hAk := hA
  obtain ⟨v0, vs0, d0, ds0, p0, q0, hargs, rfl, rfl, h0, r0⟩ := trodAll_cons hA
  obtain ⟨v1, vs1, d1, ds1, p1, q1, rfl, rfl, rfl, h1, r1⟩ := trodAll_cons r0
  obtain ⟨v2, vs2, d2, ds2, p2, q2, rfl, rfl, rfl, h2, r2⟩ := trodAll_cons r1
  obtain ⟨rfl, rfl, rfl⟩ := trodAll_nil r2
  obtain rfl : args = #[v0, v1, v2] := by cases args; simp_all
  obtain ⟨rfl, rfl⟩ := trodVars_none hV
  obtain ⟨a0, l0, k0, L0, rfl, w0⟩ := open_slice_flat (ks := [.int .u64, .int .i64]) (bytes := 16) 8 Try.underlying32 (by kernel_rfl) (by kernel_rfl) (by decide) (by kernel_rfl) (hval 0 32 v0 rfl rfl) h0 (fun elems rest hd => by subst hd; exact sized_slice hsz (j := 0) (t := 32) (e := 45) rfl rfl Try.underlying32)
  obtain ⟨a1, rfl, rfl, rfl, w1⟩ := open_int Try.underlying22 (hval 1 22 v1 rfl rfl) h1
  obtain ⟨c2, rfl, w2⟩ := open_flat (ks := [.int .i64, .int .u64]) 8 (by kernel_rfl) (by kernel_rfl) (hval 2 34 v2 rfl rfl) h2
  clear hA0 hval0 hsz0
  refine (walk W a0 l0 k0 L0 w0 a1 w1 c2 w2).mono fun e W' ⟨he, bel⟩ => ?_
  subst he
  exact ⟨_, rfl, _, _, _, [], _, [], hW', trodAll_mk1 (shut_bool Try.underlying4 _), trodAll_below laidOut bel _ _ _ _ (by kernel_rfl) hAk, rfl, bel.frame _, fun h => by cases h⟩

theorem over : Rows.healthOfRow.holds Try.pinned (OpenSpec.ofChange Rows.healthOfSpec) :=
  OpenClaim.holds_of_wide 4 Try.f4 rfl rfl rfl rfl rfl rfl rfl ⟨rfl, rfl, rfl, rfl, rfl⟩ rfl rfl rfl rfl rfl (by kernel_rfl) Try.func4 (by kernel_rfl)
    (of_decide_eq_true (by kernel_rfl)) (by unfold Func.isWrapper; first | (rw [if_pos (by decide +kernel)]; kernel_rfl) | (rw [if_neg (by decide +kernel)]; exact ⟨rfl, rfl⟩))
    (fun os started H enc _ => lifted os started H enc)

theorem proved : Rows.HealthOfSaid := over
#print axioms proved
end Go.Proofs.Ytfncipoiblieeaa.healthOf
