/- What is proved: RingTurn of porpoiselaw04 answers true for every input, and leaves its arguments as they were; conditions: those of the given row alone. -/
import Derived.Test.YtlfeenibepmicaaKit
import Derived.Test.YtlfeenibepmicaaLaw04
namespace Go.Proofs.Ytlfeenibepmicaa.ringTurn
open Go.ChangeShapes Go.WideShapes Go.ChangeAt Go.RowKit Go.Deep
open Go.ChangeMaps (open_string shut_string)
set_option linter.unusedVariables false

theorem own : ownKnob Try.prog.godebug = none := by kernel_rfl
theorem laidOut : laidOutB Try.prog = true := by kernel_rfl



set_option maxRecDepth 100000 in
set_option maxHeartbeats 2000000 in
theorem walk (w : World) (a0 : Option Addr) (l0 k0 : Nat) (L0 : List (List Value)) (w0 : SliceIn w [.int .i64, .int .i64] 16 a0 l0 k0 L0) :
    Calls Try.prog 4 #[.slice a0 l0 k0] w fun e w' => e = .returned (.bool true) ∧ Below w.heap.size w w' := by
  have W0 := Lib.hid w0
  clear w0
  go_enter Try.func4, Try.ntmps4
  go_wp2_with fail
  refine (awake_any _).mono ?_
  rintro r wa ⟨rfl, hba⟩
  have HA := Lib.hid hba
  clear hba
  go_wp2_with fail
  refine (ran_any w a0 l0 k0 L0 wa W0.out HA.out).mono ?_
  rintro r w1 ⟨b, rfl, L, h1⟩
  have H1 := Lib.hid h1
  clear h1
  go_wp2_with fail
  refine (list_ring b 5 L w1 H1.out.rng).mono ?_
  rintro r w2 ⟨v, rfl, hi, hb⟩
  obtain ⟨A, n, c, hv, _, hnl, _, _⟩ := own_row' hi
  subst hv
  have H2 := Lib.hid (H1.out.below hb)
  have I2 := Lib.hid (hi.mono H1.out.low.size)
  have hn5 : n ≤ 5 := by have := H1.out.rng.le; rw [hnl.out] at this; exact this
  clear hi hb
  go_wp2
  go_loopg [6] n (fun g v6 wr => ∃ i : Nat, i + g = n ∧ v6 = .int .i64 i ∧ Ow w wr b 5 (L.drop i) ∧ Ints wr w.heap.size (.slice A n c) L)
  case atStart => exact ⟨0, by omega, rfl, by simpa using H2.out, I2.out⟩
  case round =>
    obtain ⟨i, hg, rfl, ho, hi⟩ := hrel
    have G := Lib.hid hg
    have O := Lib.hid ho
    have I := Lib.hid hi
    clear hg
    by_cases hin : i < n
    · have hin' : (i : Int) < n := by omega
      have hil : i < L.length := by rw [hnl.out]; exact hin
      have hdrop : L.drop i = L.getD i 0 :: L.drop (i + 1) := by rw [List.drop_eq_getElem_cons hil]; simp [List.getD, hil]
      have hpop := pop_some b 5 (L.getD i 0) (L.drop (i + 1)) wr (by rw [← hdrop]; exact ho.rng)
      clear ho hi hdrop
      go_wp2_with fail
      refine hpop.mono ?_
      clear hpop
      rintro r w3 ⟨rfl, hf, hr⟩
      have o3 := O.out.after hf hr
      have i3 := O.out.rng.ints hf I.out
      obtain ⟨bb, off, rfl, q0⟩ := i3.row.1.at_ hin
      have O3 := Lib.hid o3
      have I3 := Lib.hid i3
      clear hf hr o3 i3
      generalize L.getD i 0 = z at *
      go_wp2
      go_roundg (n - (i + 1))
      case measure => have := G.out; omega
      case rel => exact ⟨i + 1, by omega, by simp, O3.out, I3.out⟩
    · have hin' : ¬ (i : Int) < n := by omega
      have hnil : L.drop i = [] := List.drop_of_length_le (by rw [hnl.out]; omega)
      rw [hnil] at ho
      have O' := Lib.hid ho
      have hn5' : (n : Int) ≤ 5 := by omega
      clear ho hi O
      go_wp2_with fail
      refine (pop_none b 5 wr O'.out.rng).mono ?_
      rintro r w3 ⟨rfl, rfl⟩
      go_wp2_with fail
      refine (len_ring b 5 [] w3 O'.out.rng).mono ?_
      rintro r w4 ⟨rfl, rfl⟩
      go_wp2
      go_ret
      exact ⟨rfl, O'.out.low⟩

set_option maxRecDepth 100000 in
theorem lifted (os : Os) (started : os.Started) (H : Type) (enc : TypeId × Value → H) :
    ReturnsInHanded {} Try.checked os 4 .any (Rows.ringTurnSpec.pre6 enc Try.prog Try.f4 Rows.ringTurnRow.domain false) (Rows.ringTurnSpec.post enc Try.prog Try.f4 false true false false) := by
  refine returnsInHanded_of_change_sized (C := Try.checked) own started (by kernel_rfl) Try.func4
    (ChangeSpec.witness6 (enc := enc) (C := Try.checked) false ⟨#[], #[.slice none 0 0], []⟩ 8 (by kernel_rfl) (by kernel_rfl) (by kernel_rfl) (by kernel_rfl)) ?_
  intro W base args ds gs before hval0 hW hcnd hsz0 _
  have hval : ∀ (j : Nat) t v, Try.f4.params[j]? = some t → args[j]? = some v → Value.okWide Try.prog W .any base t v := hval0
  have hsz : (DataW.weightsEach Try.prog (Try.f4.params.toList ++ Rows.ringTurnSpec.plain.varTypes Try.prog) (ds ++ gs)).all (· ≤ reachBytes) = true := hsz0
  have hW' := hW
  obtain ⟨p, q, hA0, hV, rfl, hfz, hnd⟩ := hW
  have hA : DataW.TrodAll enc Try.prog W 0 (fun _ => true) true Try.f4.params.toList args.toList ds p := hA0
  rw [Try.params4] at hA hval hsz
  have hAk := hA
  obtain ⟨v0, vs0, d0, ds0, p0, q0, hargs, rfl, rfl, h0, r0⟩ := trodAll_cons hA
  obtain ⟨rfl, rfl, rfl⟩ := trodAll_nil r0
  obtain rfl : args = #[v0] := by cases args; simp_all
  obtain ⟨rfl, rfl⟩ := trodVars_none hV
  obtain ⟨a0, l0, k0, L0, rfl, w0⟩ := open_slice_flat (ks := [.int .i64, .int .i64]) (bytes := 16) 8 Try.underlying22 (by kernel_rfl) (by kernel_rfl) (by decide) (by kernel_rfl) (hval 0 22 v0 rfl rfl) h0 (fun elems rest hd => by subst hd; exact sized_slice hsz (j := 0) (t := 22) (e := 30) rfl rfl Try.underlying22)
  clear hA0 hval0 hsz0
  refine (walk W a0 l0 k0 L0 w0).mono fun e W' ⟨he, bel⟩ => ?_
  subst he
  exact ⟨_, rfl, _, _, _, [], _, [], hW', trodAll_mk1 (shut_bool Try.underlying4 _), trodAll_below laidOut bel _ _ _ _ (by kernel_rfl) hAk, rfl, bel.frame _, fun h => by cases h⟩

theorem over : Rows.ringTurnRow.holds Try.pinned (OpenSpec.ofChange Rows.ringTurnSpec) :=
  OpenClaim.holds_of_wide 4 Try.f4 rfl rfl rfl rfl rfl rfl rfl ⟨rfl, rfl, rfl, rfl, rfl⟩ rfl rfl rfl rfl rfl (by kernel_rfl) Try.func4 (by kernel_rfl)
    (of_decide_eq_true (by kernel_rfl)) (by unfold Func.isWrapper; first | (rw [if_pos (by decide +kernel)]; kernel_rfl) | (rw [if_neg (by decide +kernel)]; exact ⟨rfl, rfl⟩))
    (fun os started H enc _ => lifted os started H enc)

theorem proved : Rows.RingTurnSaid := over
#print axioms proved
end Go.Proofs.Ytlfeenibepmicaa.ringTurn
