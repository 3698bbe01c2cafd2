/- What is proved: RingRemoves of porpoiselaw04 answers true for every input, and leaves its arguments as they were; conditions: those of the given row alone. -/
import Derived.Test.YtlfeenibepmicaaKit
import Derived.Test.YtlfeenibepmicaaLaw04
namespace Go.Proofs.Ytlfeenibepmicaa.ringRemoves
open Go.ChangeShapes Go.WideShapes Go.ChangeAt Go.RowKit Go.Deep
open Go.ChangeMaps (open_string shut_string)
set_option linter.unusedVariables false

theorem own : ownKnob Try.prog.godebug = none := by kernel_rfl
theorem laidOut : laidOutB Try.prog = true := by kernel_rfl

theorem row_take {w : World} {A : Option Addr} {n i : Nat} {zs : List Int} (h : Row .i64 w A n zs) (hl : zs.length = n) (hi : i ≤ n) : Row .i64 w A i (zs.take i) := by
  obtain ⟨h1, h2, h3, h4⟩ := h
  refine ⟨by rw [List.length_take]; omega, by omega, ?_, fun z hz => h4 z (List.mem_of_mem_take hz)⟩
  rcases h3 with h0 | ⟨b, off, rfl, hc⟩
  · exact .inl (by omega)
  · refine .inr ⟨b, off, rfl, fun j hj => ?_⟩
    rw [List.length_take] at hj
    rw [hc j (by omega)]
    simp [List.getD, show j < i by omega]
theorem row_drop {w : World} {b off n i c : Nat} {zs : List Int} (h : Row .i64 w (some ⟨b, off, none⟩) n zs) (hl : zs.length = n) (hi : i ≤ n) (hc : n ≤ c) : Row .i64 w (if c = i then some ⟨b, off, none⟩ else some ⟨b, off + i, none⟩) (n - i) (zs.drop i) := by
  obtain ⟨h1, h2, h3, h4⟩ := h
  refine ⟨by rw [List.length_drop]; omega, by omega, ?_, fun z hz => h4 z (List.mem_of_mem_drop hz)⟩
  by_cases hn : n - i = 0
  · exact .inl hn
  · rw [if_neg (by omega)]
    rcases h3 with h0 | ⟨b', off', e, hcs⟩
    · omega
    · injection e with e
      injection e with e1 e2
      subst e1 e2
      refine .inr ⟨b, off + i, rfl, fun j hj => ?_⟩
      rw [List.length_drop] at hj
      rw [Nat.add_assoc, hcs (i + j) (by omega)]
      simp [List.getD, List.getElem?_drop]

set_option maxRecDepth 100000 in
set_option maxHeartbeats 2000000 in
theorem walk (w : World) (a0 : Option Addr) (l0 k0 : Nat) (L0 : List (List Value)) (w0 : SliceIn w [.int .i64, .int .i64] 16 a0 l0 k0 L0) (a1 : Int) (w1 : (Lit.int .i64 a1).wf = true) :
    Calls Try.prog 6 #[.slice a0 l0 k0, .int .i64 a1] w fun e w' => e = .returned (.bool true) ∧ Below w.heap.size w w' := by
  have hx := wf_of w1
  have W0 := Lib.hid w0
  clear w0 w1
  go_enter Try.func6, Try.ntmps6
  go_wp2_with fail
  refine (awake_any _).mono ?_
  rintro r wa ⟨rfl, hba⟩
  have HA := Lib.hid hba
  clear hba
  go_wp2_with fail
  refine (ran_any w a0 l0 k0 L0 wa W0.out HA.out).mono ?_
  rintro r w1 ⟨b, rfl, L, h1⟩
  have H1 := Lib.hid h1
  clear h1
  go_wp2_with fail
  refine (list_ring b 5 L w1 H1.out.rng).mono ?_
  rintro r w2 ⟨v, rfl, hi, hb⟩
  obtain ⟨A, n, c, hv, _, hnl, hnc, hcm⟩ := own_row' hi
  subst hv
  have H2 := Lib.hid (H1.out.below hb)
  have I2 := Lib.hid (hi.mono H1.out.low.size)
  have hn5 : n ≤ 5 := by have := H1.out.rng.le; rw [hnl.out] at this; exact this
  clear hi hb
  go_wp2_with fail
  refine (remove_ring b 5 a1 L w2 H2.out.rng).mono ?_
  rintro r w3 ⟨rfl, hf, hr⟩
  have H3 := Lib.hid (H2.out.after hf hr)
  have I3 := Lib.hid (H2.out.rng.ints hf I2.out)
  clear hf hr
  generalize ht : decide (a1 ∈ L) = t
  have HT := Lib.hid ht
  clear ht
  go_wp2_with fail
  refine (list_ring b 5 _ w3 H3.out.rng).mono ?_
  rintro r w4 ⟨v4, rfl, hi, hb⟩
  obtain ⟨B, m, d, hv, _, hml, _, _⟩ := own_row' hi
  subst hv
  have H4 := Lib.hid (H3.out.below hb)
  have I4 := Lib.hid (I3.out.below hb)
  have N4 := Lib.hid (hi.mono H3.out.low.size)
  clear hi hb
  unfold maxLen at hcm
  go_wp2
  go_loopg [10] n (fun g v10 wr => ∃ i : Nat, i + g = n ∧ v10 = .int .i64 i ∧ a1 ∉ L.take i ∧ wr = w4)
  case atStart => exact ⟨0, by omega, rfl, by simp, rfl⟩
  case round =>
    obtain ⟨i, hg, rfl, hno, rfl⟩ := hrel
    have G := Lib.hid hg
    have NO := Lib.hid hno
    clear hg hno
    by_cases hin : i < n
    · have hin' : (i : Int) < n := by omega
      have hil : i < L.length := by rw [hnl.out]; exact hin
      obtain ⟨bb, off, rfl, q0⟩ := I4.out.row.1.at_ hin
      have htk := take_next (zs := L) (j := i) hil
      have hat : L[i]? = some (L.getD i 0) := by simp [List.getD, hil]
      generalize L.getD i 0 = z at q0 htk hat
      have HTK := Lib.hid htk
      have HAT := Lib.hid hat
      clear htk hat
      by_cases hzx : z = a1
      · have hzx' : (z == a1) = true := by simp [hzx]
        have hin2 : ((i : Int) == (n : Int)) = false := by simp; omega
        have HZX := Lib.hid hzx
        clear hzx
        have hmem : a1 ∈ L := by have := HAT.out; rw [HZX.out] at this; exact List.mem_of_getElem? this
        obtain rfl : t = true := by rw [← HT.out]; simp [hmem]
        have herase : L.erase a1 = L.take i ++ L.drop (i + 1) := by
          have := HAT.out
          rw [HZX.out] at this
          rw [erase_at this NO.out, List.eraseIdx_eq_take_drop_succ]
        have HER := Lib.hid herase
        clear hmem herase
        obtain ⟨q, rfl⟩ : ∃ q, n = i + 1 + q := ⟨n - (i + 1), by omega⟩
        have hrow := I4.out.row.1
        have htake := row_take hrow hnl.out (i := i) (by omega)
        have hdrop := row_drop hrow hnl.out (i := i + 1) (c := c) (by omega) hnc
        obtain ⟨A', hA'⟩ : ∃ A', (if c = i + 1 then (some ⟨bb, off, none⟩ : Option Addr) else some ⟨bb, off + (i + 1), none⟩) = A' := ⟨_, rfl⟩
        rw [hA', show i + 1 + q - (i + 1) = q by omega] at hdrop
        have hb1 := below_ali (below_alloc wr (.cells #[] 3)) (drew_ali _)
        have own0 : Ints (wr.alloc (.cells #[] 3)).drew wr.heap.size (.slice (some ⟨wr.heap.size, 0, none⟩) 0 0) [] := (ints_empty wr).ali (drew_ali _)
        have O0 := Lib.hid own0
        have HB1 := Lib.hid hb1
        have T1 := Lib.hid (htake.later hb1)
        have D0 := Lib.hid hdrop
        have LT : Hid ((L.take i).length = i) := Lib.hid (by rw [List.length_take]; omega)
        have LD : Hid ((L.drop (i + 1)).length = q) := Lib.hid (by rw [List.length_drop, hnl.out]; omega)
        obtain ⟨i0, hi0, hz0, hz1, hz2⟩ := info_parts int_info
        have e1 : (i : Int) ≤ c := by omega
        have e2 : (i : Int) + 1 ≤ (i : Int) + 1 + q := by omega
        have e3 : (0 : Int) ≤ (i : Int) + 1 := by omega
        have hwr : IntKind.i64.wrap ((i : Int) + 1) = (i : Int) + 1 := by rw [IntKind.wrap_i64]; omega
        have hnat : ((i : Int) + 1).toNat = i + 1 := by omega
        clear hrow htake hdrop hb1 own0 hil
        go_wp2
        go_region_law (first
          | (refine app_step (P := Try.prog) rfl (.tmp 50) (.tmp 53) rfl int_slice hi0 hz0 hz1 hz2 rfl (by decide) (q := .i64) (base := wr.heap.size) (v := .slice (some ⟨wr.heap.size, 0, none⟩) 0 0) (zs := []) (us := L.take i) (m := i) rfl rfl O0.out T1.out LT.out (by simp; omega) HB1.out.size ?_
             intro v5 w5 own5 gr5 _
             have OWN5 := Lib.hid (show Ints w5 wr.heap.size v5 (L.take i) from own5)
             have hb5 := HB1.out.trans (grown_below gr5 HB1.out.size O0.out.low)
             have HB5 := Lib.hid hb5
             have D5 := Lib.hid (D0.out.later hb5)
             clear own5 gr5 hb5)
          | (refine app_step (P := Try.prog) rfl (.tmp 54) (.tmp 58) rfl int_slice hi0 hz0 hz1 hz2 rfl (by decide) (q := .i64) (base := wr.heap.size) (v := v5) (zs := L.take i) (us := L.drop (i + 1)) (m := q) rfl rfl OWN5.out D5.out LD.out (by rw [LT.out]; omega) HB5.out.size ?_
             intro v6 w6 own6 gr6 _
             have OWN6 := Lib.hid own6
             have hb6 := HB5.out.trans (grown_below gr6 HB5.out.size OWN5.out.low)
             have HB6 := Lib.hid hb6
             clear own6 gr6 hb6))
        have i6 := OWN6.out
        rw [← HER.out] at i6
        obtain ⟨C, p, e, hv, hrow6, hpl, _, _⟩ := own_row' i6
        subst hv
        have n6 := N4.out.below HB6.out
        have hsm := same_any B C m d p e _ _ w6 n6.row.1 n6.row.2.1 hrow6 hpl.out
        rw [show decide (L.erase a1 = L.erase a1) = true by simp] at hsm
        clear i6 hrow6 n6
        go_wp2_with fail
        refine hsm.mono ?_
        clear hsm
        rintro r w7 ⟨rfl, ha⟩
        have HB7 := Lib.hid (below_ali HB6.out ha)
        clear ha
        go_wp2
        go_ret
        exact ⟨rfl, H4.out.low.trans (HB7.out.mono H4.out.low.size)⟩
      · have hzx' : (z == a1) = false := by simp [hzx]
        have HZX := Lib.hid hzx
        clear hzx hil
        go_wp2
        go_roundg (n - (i + 1))
        case measure => have := G.out; omega
        case rel =>
          refine ⟨i + 1, by omega, by simp, ?_, rfl⟩
          rw [HTK.out]
          intro hm
          rcases List.mem_append.1 hm with hm | hm
          · exact NO.out hm
          · simp at hm; exact HZX.out hm.symm
    · obtain rfl : i = n := by have := G.out; omega
      have hin' : ¬ (i : Int) < (i : Int) := by omega
      have hnm : a1 ∉ L := by
        have := NO.out
        rwa [List.take_of_length_le (by rw [hnl.out]; omega)] at this
      obtain rfl : t = false := by rw [← HT.out]; simp [hnm]
      have n4 := N4.out
      rw [List.erase_of_not_mem hnm] at n4
      have hsm := same_any B A m d i c L L _ n4.row.1 n4.row.2.1 I4.out.row.1 I4.out.row.2.1
      rw [show decide (L = L) = true by simp] at hsm
      clear hnm n4
      go_wp2_with fail
      refine hsm.mono ?_
      clear hsm
      rintro r w7 ⟨rfl, ha⟩
      have H7 := Lib.hid (H4.out.ali ha)
      clear ha
      go_wp2
      go_ret
      exact ⟨rfl, H7.out.low⟩

set_option maxRecDepth 100000 in
theorem lifted (os : Os) (started : os.Started) (H : Type) (enc : TypeId × Value → H) :
    ReturnsInHanded {} Try.checked os 6 .any (Rows.ringRemovesSpec.pre6 enc Try.prog Try.f6 Rows.ringRemovesRow.domain false) (Rows.ringRemovesSpec.post enc Try.prog Try.f6 false true false false) := by
  refine returnsInHanded_of_change_sized (C := Try.checked) own started (by kernel_rfl) Try.func6
    (ChangeSpec.witness6 (enc := enc) (C := Try.checked) false ⟨#[], #[.slice none 0 0, .int .i64 0], []⟩ 8 (by kernel_rfl) (by kernel_rfl) (by kernel_rfl) (by kernel_rfl)) ?_
  intro W base args ds gs before hval0 hW hcnd hsz0 _
  have hval : ∀ (j : Nat) t v, Try.f6.params[j]? = some t → args[j]? = some v → Value.okWide Try.prog W .any base t v := hval0
  have hsz : (DataW.weightsEach Try.prog (Try.f6.params.toList ++ Rows.ringRemovesSpec.plain.varTypes Try.prog) (ds ++ gs)).all (· ≤ reachBytes) = true := hsz0
  have hW' := hW
  obtain ⟨p, q, hA0, hV, rfl, hfz, hnd⟩ := hW
  have hA : DataW.TrodAll enc Try.prog W 0 (fun _ => true) true Try.f6.params.toList args.toList ds p := hA0
  rw [Try.params6] at hA hval hsz
  have hAk := hA
  obtain ⟨v0, vs0, d0, ds0, p0, q0, hargs, rfl, rfl, h0, r0⟩ := trodAll_cons hA
  obtain ⟨v1, vs1, d1, ds1, p1, q1, rfl, rfl, rfl, h1, r1⟩ := trodAll_cons r0
  obtain ⟨rfl, rfl, rfl⟩ := trodAll_nil r1
  obtain rfl : args = #[v0, v1] := by cases args; simp_all
  obtain ⟨rfl, rfl⟩ := trodVars_none hV
  obtain ⟨a0, l0, k0, L0, rfl, w0⟩ := open_slice_flat (ks := [.int .i64, .int .i64]) (bytes := 16) 8 Try.underlying22 (by kernel_rfl) (by kernel_rfl) (by decide) (by kernel_rfl) (hval 0 22 v0 rfl rfl) h0 (fun elems rest hd => by subst hd; exact sized_slice hsz (j := 0) (t := 22) (e := 30) rfl rfl Try.underlying22)
  obtain ⟨a1, rfl, rfl, rfl, w1⟩ := open_int Try.underlying3 (hval 1 3 v1 rfl rfl) h1
  clear hA0 hval0 hsz0
  refine (walk W a0 l0 k0 L0 w0 a1 w1).mono fun e W' ⟨he, bel⟩ => ?_
  subst he
  exact ⟨_, rfl, _, _, _, [], _, [], hW', trodAll_mk1 (shut_bool Try.underlying4 _), trodAll_below laidOut bel _ _ _ _ (by kernel_rfl) hAk, rfl, bel.frame _, fun h => by cases h⟩

theorem over : Rows.ringRemovesRow.holds Try.pinned (OpenSpec.ofChange Rows.ringRemovesSpec) :=
  OpenClaim.holds_of_wide 6 Try.f6 rfl rfl rfl rfl rfl rfl rfl ⟨rfl, rfl, rfl, rfl, rfl⟩ rfl rfl rfl rfl rfl (by kernel_rfl) Try.func6 (by kernel_rfl)
    (of_decide_eq_true (by kernel_rfl)) (by unfold Func.isWrapper; first | (rw [if_pos (by decide +kernel)]; kernel_rfl) | (rw [if_neg (by decide +kernel)]; exact ⟨rfl, rfl⟩))
    (fun os started H enc _ => lifted os started H enc)

theorem proved : Rows.RingRemovesSaid := over
#print axioms proved
end Go.Proofs.Ytlfeenibepmicaa.ringRemoves
