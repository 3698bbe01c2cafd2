/- What is proved: PermitAll of porpoiselaw05 answers true for every input, and leaves its arguments as they were; conditions: those of the given row alone. -/
import Derived.Test.YtikocninbbkgdaaKit
import Derived.Test.YtikocninbbkgdaaLaw05
namespace Go.Proofs.Ytikocninbbkgdaa.permitAll
open Go.ChangeShapes Go.WideShapes Go.ChangeAt Go.RowKit Go.Deep
open Go.ChangeMaps (open_string shut_string)
set_option linter.unusedVariables false

theorem own : ownKnob Try.prog.godebug = none := by kernel_rfl
theorem laidOut : laidOutB Try.prog = true := by kernel_rfl

theorem outs {z : Hol} {L : List Hol} {i : Nat} (hd : L.Nodup) (hz : L[i]? = some z) : outH z (L.drop i) = L.drop (i + 1) := by
  obtain ⟨hlt, he⟩ := List.getElem?_eq_some_iff.1 hz
  have hc : L.drop i = z :: L.drop (i + 1) := by rw [List.drop_eq_getElem_cons hlt, he]
  have hnd : (L.drop i).Nodup := (List.drop_sublist i L).nodup hd
  rw [hc] at hnd ⊢
  have hn := (List.nodup_cons.1 hnd).1
  have : outH z (z :: L.drop (i + 1)) = outH z (L.drop (i + 1)) := by simp [outH]
  rw [this, outH_not hn]
/-- The holders that the second loop lays: 100, 101, .. -/
def hund : Nat → List Hol
  | 0 => []
  | i + 1 => hund i ++ [((100 : Int) + i, 0)]
theorem hund_length : ∀ i, (hund i).length = i
  | 0 => rfl
  | i + 1 => by simp [hund, hund_length i]
theorem hund_lt : ∀ {i : Nat} {z : Hol}, z ∈ hund i → z.1 < 100 + (i : Int)
  | 0, z, h => by simp [hund] at h
  | i + 1, z, h => by
    rw [hund] at h
    rcases List.mem_append.1 h with h | h
    · have := hund_lt h; omega
    · simp at h; subst h; show (100 : Int) + i < _; omega
theorem insH_last {h : Hol} : ∀ {L : List Hol}, (∀ z ∈ L, ltH z h = true) → insH h L = L ++ [h]
  | [], _ => rfl
  | x :: L, hl => by rw [insH, if_pos (hl x (by simp)), insH_last (fun z hz => hl z (by simp [hz]))]; rfl
theorem acc_hund (i : Nat) : acc1 4 ((100 : Int) + i, 0) (hund (min i 4)) = decide (i < 4) := by
  unfold acc1
  rw [hund_length]
  have hn : ((100 : Int) + i, (0 : Int)) ∉ hund (min i 4) := fun hc => by
    have := hund_lt hc
    simp only at this
    omega
  by_cases h : i < 4
  · rw [decide_eq_true (show min i 4 < 4 by omega), decide_eq_true h, decide_eq_false hn]; rfl
  · rw [decide_eq_false (show ¬ min i 4 < 4 by omega), decide_eq_false h]; rfl
theorem ins_hund (i : Nat) : ins1 4 ((100 : Int) + i, 0) (hund (min i 4)) = hund (min (i + 1) 4) := by
  rw [ins1, acc_hund]
  by_cases h : i < 4
  · rw [decide_eq_true h, if_pos rfl, show min i 4 = i by omega, show min (i + 1) 4 = i + 1 by omega, hund, insH_last]
    intro z hz
    rw [ltH_iff]
    exact .inl (hund_lt hz)
  · rw [decide_eq_false h, show min i 4 = 4 by omega, show min (i + 1) 4 = 4 by omega]
    rfl

set_option maxRecDepth 100000 in
set_option maxHeartbeats 2000000 in
theorem walk (w : World) (a0 : Option Addr) (l0 k0 : Nat) (L0 : List (List Value)) (w0 : SliceIn w [.int .i64, .int .i64, .int .i64] 24 a0 l0 k0 L0) (a1 : Int) (w1 : (Lit.int .u8 a1).wf = true) :
    Calls Try.prog 6 #[.slice a0 l0 k0, .int .u8 a1] w fun e w' => e = .returned (.bool true) ∧ Below w.heap.size w w' := by
  have W0 := Lib.hid w0
  have hu := bounds_u8 w1
  obtain ⟨u, rfl⟩ : ∃ u : Nat, a1 = u := ⟨a1.toNat, by omega⟩
  have hu8 : (u : Int) ≤ 255 := by omega
  clear w0 w1 hu
  go_enter Try.func6, Try.ntmps6
  go_wp2_with fail
  refine (awake_any _).mono ?_
  rintro r wa ⟨rfl, hba⟩
  have HA := Lib.hid hba
  clear hba
  go_wp2_with fail
  refine (ran_any w a0 l0 k0 L0 wa W0.out HA.out).mono ?_
  rintro r w2 ⟨b, rfl, m, L, h2⟩
  have H2 := Lib.hid h2
  have hl4 : L.length ≤ 4 := h2.prm.le
  clear h2
  go_wp2_with fail
  refine (all_prm b m 4 L w2 H2.out.prm).mono ?_
  rintro r w3 ⟨v3, rfl, ho, hb⟩
  obtain ⟨A, n, c, hv, _, hnl, _, _⟩ := ho.row'
  subst hv
  have hn4 : n ≤ 4 := by have := hnl.out; omega
  have H3 := Lib.hid (H2.out.below hb)
  have O3 := Lib.hid (ho.mono H2.out.low.size)
  clear ho hb
  go_wp2
  go_loopg [8] n (fun g v8 wr => ∃ i : Nat, i + g = n ∧ v8 = .int .i64 i ∧ Ow w wr b m 4 (L.drop i) ∧ HolR wr w.heap.size (.slice A n c) L)
  case atStart => exact ⟨0, by omega, rfl, by simpa using H3.out, O3.out⟩
  case round =>
    obtain ⟨i, hg, rfl, ho, hi⟩ := hrel
    have G := Lib.hid hg
    have O := Lib.hid ho
    have I := Lib.hid hi
    clear hg
    by_cases hin : i < n
    · have hin' : (i : Int) < n := by omega
      obtain ⟨bb, off, z1, z2, rfl, hz, q0, q1⟩ := hi.row.1.two hin
      have hzm : (z1, z2) ∈ L.drop i := by
        obtain ⟨hlt, he⟩ := List.getElem?_eq_some_iff.1 hz
        rw [List.drop_eq_getElem_cons hlt, he]
        simp
      have hfr := free_all b m 4 (L.drop i) z1 z2 wr O.out.prm (O.out.prm.wf _ hzm)
      rw [decide_eq_true hzm, outs H2.out.prm.rise.nodup hz] at hfr
      clear ho hi hz hzm
      go_wp2_with fail
      refine hfr.mono ?_
      clear hfr
      rintro r w4 ⟨rfl, hf, hp⟩
      have O4 := Lib.hid (O.out.after hf hp)
      have I4 := Lib.hid (O.out.prm.rows hf I.out)
      clear hf hp q0 q1
      go_wp2
      go_roundg (n - (i + 1))
      case measure => have := G.out; omega
      case rel => exact ⟨i + 1, by omega, by simp, O4.out, I4.out⟩
    · have hin' : ¬ (i : Int) < n := by omega
      have hnil : L.drop i = [] := List.drop_of_length_le (by rw [hnl.out]; omega)
      rw [hnil] at ho
      have O' := Lib.hid ho
      clear ho hi O hnil
      obtain ⟨t, ht⟩ : ∃ t : Nat, u % 12 = t := ⟨_, rfl⟩
      have htl : t < 12 := by omega
      have hti : ((u : Int) % 12) = t := by omega
      go_wp2
      go_loopg [9, 10] t (fun g v9 v10 wr => ∃ i : Nat, i + g = t ∧ v10 = .int .i64 i ∧ v9 = .int .i64 ((min i 4 : Nat) : Int) ∧ Ow w wr b m 4 (hund (min i 4)))
      case atStart => exact ⟨0, by omega, rfl, rfl, O'.out⟩
      case round =>
        obtain ⟨i, hg, rfl, rfl, ho⟩ := hrel
        have G := Lib.hid hg
        have O := Lib.hid ho
        clear hg ho
        by_cases hin : i < t
        · have hin' : (i : Int) < t := by omega
          have hta := take_all b m 4 (hund (min i 4)) ((100 : Int) + i) 0 wr O.out.prm ⟨⟨by show -9223372036854775808 ≤ (100 : Int) + i; omega, by show (100 : Int) + i ≤ 9223372036854775807; omega⟩, ⟨by show -9223372036854775808 ≤ (0 : Int); omega, by show (0 : Int) ≤ 9223372036854775807; omega⟩⟩
          rw [acc_hund, ins_hund] at hta
          by_cases h4 : i < 4
          · rw [decide_eq_true h4] at hta
            go_wp2_with fail
            refine hta.mono ?_
            clear hta
            rintro r w4 ⟨rfl, hf, hp⟩
            have O4 := Lib.hid (O.out.after hf hp)
            clear hf hp
            have hmi : ((min i 4 : Nat) : Int) + 1 = ((min (i + 1) 4 : Nat) : Int) := by omega
            have hmm : (min i 4 : Nat) ≤ 4 := by omega
            go_wp2
            go_roundg (t - (i + 1))
            case measure => have := G.out; omega
            case rel => exact ⟨i + 1, by omega, by simp, by simp, O4.out⟩
          · rw [decide_eq_false h4] at hta
            go_wp2_with fail
            refine hta.mono ?_
            clear hta
            rintro r w4 ⟨rfl, hf, hp⟩
            have O4 := Lib.hid (O.out.after hf hp)
            clear hf hp
            go_wp2
            go_roundg (t - (i + 1))
            case measure => have := G.out; omega
            case rel => exact ⟨i + 1, by omega, by simp, by rw [show min (i + 1) 4 = min i 4 by omega], O4.out⟩
        · have hin' : ¬ (i : Int) < t := by omega
          obtain rfl : i = t := by have := G.out; omega
          have hus := used_prm b m 4 (hund (min i 4)) wr O.out.prm
          rw [hund_length] at hus
          go_wp2_with fail
          refine hus.mono ?_
          clear hus
          rintro r w4 ⟨rfl, rfl⟩
          go_wp2
          go_ret
          exact ⟨rfl, O.out.low⟩

set_option maxRecDepth 100000 in
theorem lifted (os : Os) (started : os.Started) (H : Type) (enc : TypeId × Value → H) :
    ReturnsInHanded {} Try.checked os 6 .any (Rows.permitAllSpec.pre6 enc Try.prog Try.f6 Rows.permitAllRow.domain false) (Rows.permitAllSpec.post enc Try.prog Try.f6 false true false false) := by
  refine returnsInHanded_of_change_sized (C := Try.checked) own started (by kernel_rfl) Try.func6
    (ChangeSpec.witness6 (enc := enc) (C := Try.checked) false ⟨#[], #[.slice none 0 0, .int .u8 0], []⟩ 8 (by kernel_rfl) (by kernel_rfl) (by kernel_rfl) (by kernel_rfl)) ?_
  intro W base args ds gs before hval0 hW hcnd hsz0 _
  have hval : ∀ (j : Nat) t v, Try.f6.params[j]? = some t → args[j]? = some v → Value.okWide Try.prog W .any base t v := hval0
  have hsz : (DataW.weightsEach Try.prog (Try.f6.params.toList ++ Rows.permitAllSpec.plain.varTypes Try.prog) (ds ++ gs)).all (· ≤ reachBytes) = true := hsz0
  have hW' := hW
  obtain ⟨p, q, hA0, hV, rfl, hfz, hnd⟩ := hW
  have hA : DataW.TrodAll enc Try.prog W 0 (fun _ => true) true Try.f6.params.toList args.toList ds p := hA0
  rw [Try.params6] at hA hval hsz
  have hAk := hA
  obtain ⟨v0, vs0, d0, ds0, p0, q0, hargs, rfl, rfl, h0, r0⟩ := trodAll_cons hA
  obtain ⟨v1, vs1, d1, ds1, p1, q1, rfl, rfl, rfl, h1, r1⟩ := trodAll_cons r0
  obtain ⟨rfl, rfl, rfl⟩ := trodAll_nil r1
  obtain rfl : args = #[v0, v1] := by cases args; simp_all
  obtain ⟨rfl, rfl⟩ := trodVars_none hV
  obtain ⟨a0, l0, k0, L0, rfl, w0⟩ := open_slice_flat (ks := [.int .i64, .int .i64, .int .i64]) (bytes := 24) 8 Try.underlying22 (by kernel_rfl) (by kernel_rfl) (by decide) (by kernel_rfl) (hval 0 22 v0 rfl rfl) h0 (fun elems rest hd => by subst hd; exact sized_slice hsz (j := 0) (t := 22) (e := 32) rfl rfl Try.underlying22)
  obtain ⟨a1, rfl, rfl, rfl, w1⟩ := open_int Try.underlying5 (hval 1 5 v1 rfl rfl) h1
  clear hA0 hval0 hsz0
  refine (walk W a0 l0 k0 L0 w0 a1 w1).mono fun e W' ⟨he, bel⟩ => ?_
  subst he
  exact ⟨_, rfl, _, _, _, [], _, [], hW', trodAll_mk1 (shut_bool Try.underlying4 _), trodAll_below laidOut bel _ _ _ _ (by kernel_rfl) hAk, rfl, bel.frame _, fun h => by cases h⟩

theorem over : Rows.permitAllRow.holds Try.pinned (OpenSpec.ofChange Rows.permitAllSpec) :=
  OpenClaim.holds_of_wide 6 Try.f6 rfl rfl rfl rfl rfl rfl rfl ⟨rfl, rfl, rfl, rfl, rfl⟩ rfl rfl rfl rfl rfl (by kernel_rfl) Try.func6 (by kernel_rfl)
    (of_decide_eq_true (by kernel_rfl)) (by unfold Func.isWrapper; first | (rw [if_pos (by decide +kernel)]; kernel_rfl) | (rw [if_neg (by decide +kernel)]; exact ⟨rfl, rfl⟩))
    (fun os started H enc _ => lifted os started H enc)

theorem proved : Rows.PermitAllSaid := over
#print axioms proved
end Go.Proofs.Ytikocninbbkgdaa.permitAll
