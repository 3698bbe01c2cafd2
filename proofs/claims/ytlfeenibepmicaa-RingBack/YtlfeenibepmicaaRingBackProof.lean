/- What is proved: RingBack of porpoiselaw04 answers true for every input, and leaves its arguments as they were; conditions: those of the given row alone. -/
import Derived.Test.YtlfeenibepmicaaKit
import Derived.Test.YtlfeenibepmicaaLaw04
namespace Go.Proofs.Ytlfeenibepmicaa.ringBack
open Go.ChangeShapes Go.WideShapes Go.ChangeAt Go.RowKit Go.Deep
open Go.ChangeMaps (open_string shut_string)
set_option linter.unusedVariables false

theorem own : ownKnob Try.prog.godebug = none := by kernel_rfl
theorem laidOut : laidOutB Try.prog = true := by kernel_rfl



set_option maxRecDepth 100000 in
set_option maxHeartbeats 2000000 in
theorem walk (w : World) (a0 : Option Addr) (l0 k0 : Nat) (L0 : List (List Value)) (w0 : SliceIn w [.int .i64, .int .i64] 16 a0 l0 k0 L0) (a1 : Int) (w1 : (Lit.int .i64 a1).wf = true) :
    Calls Try.prog 5 #[.slice a0 l0 k0, .int .i64 a1] w fun e w' => e = .returned (.bool true) ∧ Below w.heap.size w w' := by
  have hx := wf_of w1
  have W0 := Lib.hid w0
  clear w0 w1
  go_enter Try.func5, Try.ntmps5
  go_wp2_with fail
  refine (awake_any _).mono ?_
  rintro r wa ⟨rfl, hba⟩
  have HA := Lib.hid hba
  clear hba
  go_wp2_with fail
  refine (ran_any w a0 l0 k0 L0 wa W0.out HA.out).mono ?_
  rintro r w1 ⟨b, rfl, L, h1⟩
  have H1 := Lib.hid h1
  clear h1
  go_wp2_with fail
  refine (list_ring b 5 L w1 H1.out.rng).mono ?_
  rintro r w2 ⟨v, rfl, hi, hb⟩
  obtain ⟨A, n, c, hv, hrow, hnl, _, _⟩ := own_row' hi
  subst hv
  have H2 := Lib.hid (H1.out.below hb)
  have I2 := Lib.hid (hi.mono H1.out.low.size)
  have hhas := has_any A n c a1 L w2 hrow hnl.out
  clear hi hb hrow
  go_wp2_with fail
  refine hhas.mono ?_
  clear hhas
  rintro r w3 ⟨rfl, rfl⟩
  by_cases hin : a1 ∈ L
  · have hd : decide (a1 ∈ L) = true := by simp [hin]
    rw [hd]
    clear hin hd
    go_wp2
    go_ret
    exact ⟨rfl, H2.out.low⟩
  · have hd : decide (a1 ∈ L) = false := by simp [hin]
    rw [hd]
    have NI := Lib.hid hin
    clear hin hd
    by_cases hfl : L.length = 5
    · have hff := full_ring b 5 L _ H2.out.rng
      rw [show ((L.length : Int) == ((5 : Nat) : Int)) = true by simp [hfl]] at hff
      go_wp2_with fail
      refine hff.mono ?_
      clear hff
      rintro r w4 ⟨rfl, ha⟩
      have H4 := Lib.hid (H2.out.ali ha)
      have I4 := Lib.hid (I2.out.ali ha)
      clear ha
      go_wp2_with fail
      refine (push_full b 5 a1 L w4 H4.out.rng hfl).mono ?_
      rintro r w5 ⟨rfl, ha⟩
      have H5 := Lib.hid (H4.out.ali ha)
      have I5 := Lib.hid (I4.out.ali ha)
      clear ha hfl
      have hrm := remove_ring b 5 a1 L w5 H5.out.rng
      rw [List.erase_of_not_mem NI.out, show decide (a1 ∈ L) = false by simp [NI.out]] at hrm
      go_wp2_with fail
      refine hrm.mono ?_
      clear hrm
      rintro r w6 ⟨rfl, hf, hr⟩
      have H6 := Lib.hid (H5.out.after hf hr)
      have I6 := Lib.hid (H5.out.rng.ints hf I5.out)
      clear hf hr
      go_wp2_with fail
      refine (list_ring b 5 L w6 H6.out.rng).mono ?_
      rintro r w7 ⟨v7, rfl, hi, hb⟩
      obtain ⟨B, m, d, hv, hrow, hml, _, _⟩ := own_row' hi
      subst hv
      have H7 := Lib.hid (H6.out.below hb)
      have i7 := I6.out.below hb
      have hsm := same_any B A m d n c L L w7 hrow hml.out i7.row.1 i7.row.2.1
      rw [show decide (L = L) = true by simp] at hsm
      clear hi hb hrow i7
      go_wp2_with fail
      refine hsm.mono ?_
      clear hsm
      rintro r w8 ⟨rfl, ha⟩
      have H8 := Lib.hid (H7.out.ali ha)
      clear ha
      have hrm := remove_ring b 5 a1 L w8 H8.out.rng
      rw [show decide (a1 ∈ L) = false by simp [NI.out]] at hrm
      go_wp2_with fail
      refine hrm.mono ?_
      clear hrm
      rintro r w9 ⟨rfl, hf, hr⟩
      have H9 := Lib.hid (H8.out.after hf hr)
      clear hf hr
      go_wp2
      go_ret
      exact ⟨rfl, H9.out.low⟩
    · have hff := full_ring b 5 L _ H2.out.rng
      rw [show ((L.length : Int) == ((5 : Nat) : Int)) = false by simp; omega] at hff
      have hlt : L.length < 5 := by have := H2.out.rng.le; omega
      go_wp2_with fail
      refine hff.mono ?_
      clear hff
      rintro r w4 ⟨rfl, ha⟩
      have H4 := Lib.hid (H2.out.ali ha)
      have I4 := Lib.hid (I2.out.ali ha)
      clear ha
      go_wp2_with fail
      refine (push_some b 5 a1 L w4 H4.out.rng hlt hx).mono ?_
      rintro r w5 ⟨rfl, hf, hr⟩
      have H5 := Lib.hid (H4.out.after hf hr)
      have I5 := Lib.hid (H4.out.rng.ints hf I4.out)
      clear hf hr hfl hlt
      have hrm := remove_ring b 5 a1 (L ++ [a1]) w5 H5.out.rng
      rw [List.erase_append_right _ NI.out, show decide (a1 ∈ L ++ [a1]) = true by simp] at hrm
      simp only [List.erase_cons_head, List.append_nil] at hrm
      go_wp2_with fail
      refine hrm.mono ?_
      clear hrm
      rintro r w6 ⟨rfl, hf, hr⟩
      have H6 := Lib.hid (H5.out.after hf hr)
      have I6 := Lib.hid (H5.out.rng.ints hf I5.out)
      clear hf hr
      go_wp2_with fail
      refine (list_ring b 5 L w6 H6.out.rng).mono ?_
      rintro r w7 ⟨v7, rfl, hi, hb⟩
      obtain ⟨B, m, d, hv, hrow, hml, _, _⟩ := own_row' hi
      subst hv
      have H7 := Lib.hid (H6.out.below hb)
      have i7 := I6.out.below hb
      have hsm := same_any B A m d n c L L w7 hrow hml.out i7.row.1 i7.row.2.1
      rw [show decide (L = L) = true by simp] at hsm
      clear hi hb hrow i7
      go_wp2_with fail
      refine hsm.mono ?_
      clear hsm
      rintro r w8 ⟨rfl, ha⟩
      have H8 := Lib.hid (H7.out.ali ha)
      clear ha
      have hrm := remove_ring b 5 a1 L w8 H8.out.rng
      rw [show decide (a1 ∈ L) = false by simp [NI.out]] at hrm
      go_wp2_with fail
      refine hrm.mono ?_
      clear hrm
      rintro r w9 ⟨rfl, hf, hr⟩
      have H9 := Lib.hid (H8.out.after hf hr)
      clear hf hr
      go_wp2
      go_ret
      exact ⟨rfl, H9.out.low⟩

set_option maxRecDepth 100000 in
theorem lifted (os : Os) (started : os.Started) (H : Type) (enc : TypeId × Value → H) :
    ReturnsInHanded {} Try.checked os 5 .any (Rows.ringBackSpec.pre6 enc Try.prog Try.f5 Rows.ringBackRow.domain false) (Rows.ringBackSpec.post enc Try.prog Try.f5 false true false false) := by
  refine returnsInHanded_of_change_sized (C := Try.checked) own started (by kernel_rfl) Try.func5
    (ChangeSpec.witness6 (enc := enc) (C := Try.checked) false ⟨#[], #[.slice none 0 0, .int .i64 0], []⟩ 8 (by kernel_rfl) (by kernel_rfl) (by kernel_rfl) (by kernel_rfl)) ?_
  intro W base args ds gs before hval0 hW hcnd hsz0 _
  have hval : ∀ (j : Nat) t v, Try.f5.params[j]? = some t → args[j]? = some v → Value.okWide Try.prog W .any base t v := hval0
  have hsz : (DataW.weightsEach Try.prog (Try.f5.params.toList ++ Rows.ringBackSpec.plain.varTypes Try.prog) (ds ++ gs)).all (· ≤ reachBytes) = true := hsz0
  have hW' := hW
  obtain ⟨p, q, hA0, hV, rfl, hfz, hnd⟩ := hW
  have hA : DataW.TrodAll enc Try.prog W 0 (fun _ => true) true Try.f5.params.toList args.toList ds p := hA0
  rw [Try.params5] at hA hval hsz
  have hAk := hA
  obtain ⟨v0, vs0, d0, ds0, p0, q0, hargs, rfl, rfl, h0, r0⟩ := trodAll_cons hA
  obtain ⟨v1, vs1, d1, ds1, p1, q1, rfl, rfl, rfl, h1, r1⟩ := trodAll_cons r0
  obtain ⟨rfl, rfl, rfl⟩ := trodAll_nil r1
  obtain rfl : args = #[v0, v1] := by cases args; simp_all
  obtain ⟨rfl, rfl⟩ := trodVars_none hV
  obtain ⟨a0, l0, k0, L0, rfl, w0⟩ := open_slice_flat (ks := [.int .i64, .int .i64]) (bytes := 16) 8 Try.underlying22 (by kernel_rfl) (by kernel_rfl) (by decide) (by kernel_rfl) (hval 0 22 v0 rfl rfl) h0 (fun elems rest hd => by subst hd; exact sized_slice hsz (j := 0) (t := 22) (e := 30) rfl rfl Try.underlying22)
  obtain ⟨a1, rfl, rfl, rfl, w1⟩ := open_int Try.underlying3 (hval 1 3 v1 rfl rfl) h1
  clear hA0 hval0 hsz0
  refine (walk W a0 l0 k0 L0 w0 a1 w1).mono fun e W' ⟨he, bel⟩ => ?_
  subst he
  exact ⟨_, rfl, _, _, _, [], _, [], hW', trodAll_mk1 (shut_bool Try.underlying4 _), trodAll_below laidOut bel _ _ _ _ (by kernel_rfl) hAk, rfl, bel.frame _, fun h => by cases h⟩

theorem over : Rows.ringBackRow.holds Try.pinned (OpenSpec.ofChange Rows.ringBackSpec) :=
  OpenClaim.holds_of_wide 5 Try.f5 rfl rfl rfl rfl rfl rfl rfl ⟨rfl, rfl, rfl, rfl, rfl⟩ rfl rfl rfl rfl rfl (by kernel_rfl) Try.func5 (by kernel_rfl)
    (of_decide_eq_true (by kernel_rfl)) (by unfold Func.isWrapper; first | (rw [if_pos (by decide +kernel)]; kernel_rfl) | (rw [if_neg (by decide +kernel)]; exact ⟨rfl, rfl⟩))
    (fun os started H enc _ => lifted os started H enc)

theorem proved : Rows.RingBackSaid := over
#print axioms proved
end Go.Proofs.Ytlfeenibepmicaa.ringBack
