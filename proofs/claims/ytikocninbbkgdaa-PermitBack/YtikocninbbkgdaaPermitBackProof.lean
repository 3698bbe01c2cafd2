/- What is proved: PermitBack of porpoiselaw05 answers true for every input, and leaves its arguments as they were; conditions: those of the given row alone. -/
import Derived.Test.YtikocninbbkgdaaKit
import Derived.Test.YtikocninbbkgdaaLaw05
namespace Go.Proofs.Ytikocninbbkgdaa.permitBack
open Go.ChangeShapes Go.WideShapes Go.ChangeAt Go.RowKit Go.Deep
open Go.ChangeMaps (open_string shut_string)
set_option linter.unusedVariables false

theorem own : ownKnob Try.prog.godebug = none := by kernel_rfl
theorem laidOut : laidOutB Try.prog = true := by kernel_rfl

theorem ins1_again {most : Nat} {h : Hol} {L : List Hol} : acc1 most h (ins1 most h L) = false := by
  unfold ins1
  split
  · unfold acc1
    simp [mem_insH]
  · rename_i hc
    simpa using hc
theorem ins1_twice {most : Nat} {h : Hol} {L : List Hol} : ins1 most h (ins1 most h L) = ins1 most h L := by
  conv => lhs; rw [ins1, ins1_again]
  rfl

set_option maxRecDepth 100000 in
set_option maxHeartbeats 2000000 in
theorem walk (w : World) (a0 : Option Addr) (l0 k0 : Nat) (L0 : List (List Value)) (w0 : SliceIn w [.int .i64, .int .i64, .int .i64] 24 a0 l0 k0 L0) (c1 : Array Value) (w1 : Flat [.int .i64, .int .i64] c1.toList) :
    Calls Try.prog 5 #[.slice a0 l0 k0, .agg c1] w fun e w' => e = .returned (.bool true) ∧ Below w.heap.size w w' := by
  obtain ⟨x, y, rfl, hx0, hy0⟩ := w1.two
  have hx : wfH (x, y) := ⟨bounds_i64 hx0, bounds_i64 hy0⟩
  have W0 := Lib.hid w0
  clear w0 w1 hx0 hy0
  have hb1 := below_alloc w (robj (x, y))
  have hd1 := heap_alloc_at w (robj (x, y))
  generalize hW : w.alloc (robj (x, y)) = w1 at *
  have HB := Lib.hid hb1
  have HD := Lib.hid hd1
  have W1 := Lib.hid (W0.out.later hb1)
  clear hb1 hd1
  go_enter Try.func5, Try.ntmps5
  go_wp2_with fail
  refine (awake_any w1).mono ?_
  rintro r wa ⟨rfl, hba⟩
  have HA := Lib.hid hba
  clear hba hW
  go_wp2_with fail
  refine (ran_any w1 a0 l0 k0 L0 wa W1.out HA.out).mono ?_
  rintro r w2 ⟨b, rfl, m, L, h2⟩
  have H2 := Lib.hid h2
  have hl8 : L.length ≤ 4 := h2.prm.le
  clear h2
  go_wp2_with fail
  refine (all_prm b m 4 L w2 H2.out.prm).mono ?_
  rintro r w3 ⟨v3, rfl, ho, hb⟩
  obtain ⟨A, n, c, hv, hrow, hnl, _, _⟩ := ho.row'
  subst hv
  have H3 := Lib.hid (H2.out.below hb)
  have hn : n ≤ 1000 := by have := hnl.out; omega
  clear ho hb
  go_wp2_with fail
  refine (real_any A n c L w3 hrow hn).mono ?_
  rintro r w4 ⟨v4, rfl, ho, hb⟩
  have H4 := Lib.hid (H3.out.below hb)
  have O4 := Lib.hid (ho.mono H3.out.low.size)
  obtain ⟨d0, d1⟩ := rcells (kb_below HD.out H4.out.low)
  clear ho hb hrow hnl hn
  go_wp2_with fail
  refine (made_any x y w4).mono ?_
  clear d0 d1
  rintro r w5 ⟨rfl, hb⟩
  have H5 := Lib.hid (H4.out.below hb)
  have O5 := Lib.hid (O4.out.below hb)
  clear hb
  have hho := holds_prm b m 4 L x y w5 H5.out.prm hx
  have hta : ∀ w, Ow w1 w b m 4 L → _ := fun w h => take_all b m 4 L x y w h.prm hx
  have hro : ∀ w, Ow w1 w b m 4 L → _ := fun w h => room_prm b m 4 L w h.prm
  have hac : acc1 4 (x, y) L = (decide (L.length < 4) && !decide ((x, y) ∈ L)) := rfl
  generalize decide (L.length < 4) = t2 at hro hac
  generalize decide ((x, y) ∈ L) = t1 at hho hac
  have ACC := Lib.hid hac
  rw [hac] at hta
  clear hac
  go_wp2_with fail
  refine hho.mono ?_
  clear hho
  rintro r w6 ⟨rfl, hb⟩
  have H6 := Lib.hid (H5.out.below hb)
  have O6 := Lib.hid (O5.out.below hb)
  clear hb
  go_wp2_with fail
  refine (hro w6 H6.out).mono ?_
  clear hro
  rintro r w7 ⟨rfl, ha⟩
  have H7 := Lib.hid (H6.out.ali ha)
  have O7 := Lib.hid (O6.out.ali ha)
  obtain ⟨d0, d1⟩ := rcells (kb_below HD.out H7.out.low)
  clear ha
  go_wp2_with fail
  refine (made_any x y w7).mono ?_
  clear d0 d1
  rintro r w8 ⟨rfl, hb⟩
  have H8 := Lib.hid (H7.out.below hb)
  have O8 := Lib.hid (O7.out.below hb)
  clear hb
  go_wp2_with fail
  refine (hta w8 H8.out).mono ?_
  clear hta
  rintro r w9 ⟨rfl, hf, hp⟩
  have H9 := Lib.hid (H8.out.after hf hp)
  have O9 := Lib.hid (H8.out.prm.rows hf O8.out)
  obtain ⟨d0, d1⟩ := rcells (kb_below HD.out H9.out.low)
  clear hf hp
  cases t2
  · cases t1
    · simp only [Bool.and_true, Bool.not_false] at ACC ⊢
      have eI : ins1 4 (x, y) L = L := by rw [ins1, ACC.out]; rfl
      rw [eI] at H9
      clear eI
      go_wp2_with fail
      refine (made_any x y w9).mono ?_
      clear d0 d1
      rintro r w10 ⟨rfl, hb⟩
      have H10 := Lib.hid (H9.out.below hb)
      have O10 := Lib.hid (O9.out.below hb)
      clear hb
      have ht := take_all b m 4 L x y w10 H10.out.prm hx
      rw [ins1, ACC.out] at ht
      go_wp2_with fail
      refine ht.mono ?_
      clear ht
      rintro r w11 ⟨rfl, hf, hp⟩
      have HX := Lib.hid (show Ow w1 w11 b m 4 L from H10.out.after hf hp)
      have OX := Lib.hid (H10.out.prm.rows hf O10.out)
      clear hf hp
      go_wp2_with fail
      refine (all_prm b m 4 L w11 HX.out.prm).mono ?_
      rintro r wy ⟨vy, rfl, ho, hb⟩
      obtain ⟨B, n2, c2, hv, hrow, hnl, _, _⟩ := ho.row'
      subst hv
      have HY := Lib.hid (HX.out.below hb)
      have OY := Lib.hid (OX.out.below hb)
      have hn : n2 ≤ 1000 := by have := hnl.out; omega
      clear ho hb
      go_wp2_with fail
      refine (real_any B n2 c2 L wy hrow hn).mono ?_
      rintro r wz ⟨vz, rfl, ho, hb⟩
      have HZ := Lib.hid (HY.out.below hb)
      have OZ := Lib.hid (OY.out.below hb)
      obtain ⟨C, n3, c3, hv, hrow3, _, _, _⟩ := ho.row'
      subst hv
      obtain ⟨E, n4, c4, hv4, hrow4, _, _, _⟩ := OZ.out.row'
      rw [hv4]
      have hsm := rsame_any C E n3 c3 n4 c4 L L wz hrow3 hrow4 HZ.out.prm.wf HZ.out.prm.wf
      rw [show decide (L = L) = true by simp] at hsm
      clear ho hb hrow hnl hn hrow3 hrow4 hv4
      go_wp2_with fail
      refine hsm.mono ?_
      clear hsm
      rintro r wx ⟨rfl, ha⟩
      have HF := Lib.hid (HZ.out.ali ha)
      clear ha
      go_wp2
      go_ret
      exact ⟨rfl, HB.out.trans (HF.out.low.mono HB.out.size)⟩
    · simp only [Bool.and_false, Bool.not_true] at ACC ⊢
      have eI : ins1 4 (x, y) L = L := by rw [ins1, ACC.out]; rfl
      rw [eI] at H9
      clear eI
      go_wp2_with fail
      refine (made_any x y w9).mono ?_
      clear d0 d1
      rintro r w10 ⟨rfl, hb⟩
      have H10 := Lib.hid (H9.out.below hb)
      have O10 := Lib.hid (O9.out.below hb)
      clear hb
      have ht := take_all b m 4 L x y w10 H10.out.prm hx
      rw [ins1, ACC.out] at ht
      go_wp2_with fail
      refine ht.mono ?_
      clear ht
      rintro r w11 ⟨rfl, hf, hp⟩
      have HX := Lib.hid (show Ow w1 w11 b m 4 L from H10.out.after hf hp)
      have OX := Lib.hid (H10.out.prm.rows hf O10.out)
      clear hf hp
      go_wp2_with fail
      refine (all_prm b m 4 L w11 HX.out.prm).mono ?_
      rintro r wy ⟨vy, rfl, ho, hb⟩
      obtain ⟨B, n2, c2, hv, hrow, hnl, _, _⟩ := ho.row'
      subst hv
      have HY := Lib.hid (HX.out.below hb)
      have OY := Lib.hid (OX.out.below hb)
      have hn : n2 ≤ 1000 := by have := hnl.out; omega
      clear ho hb
      go_wp2_with fail
      refine (real_any B n2 c2 L wy hrow hn).mono ?_
      rintro r wz ⟨vz, rfl, ho, hb⟩
      have HZ := Lib.hid (HY.out.below hb)
      have OZ := Lib.hid (OY.out.below hb)
      obtain ⟨C, n3, c3, hv, hrow3, _, _, _⟩ := ho.row'
      subst hv
      obtain ⟨E, n4, c4, hv4, hrow4, _, _, _⟩ := OZ.out.row'
      rw [hv4]
      have hsm := rsame_any C E n3 c3 n4 c4 L L wz hrow3 hrow4 HZ.out.prm.wf HZ.out.prm.wf
      rw [show decide (L = L) = true by simp] at hsm
      clear ho hb hrow hnl hn hrow3 hrow4 hv4
      go_wp2_with fail
      refine hsm.mono ?_
      clear hsm
      rintro r wx ⟨rfl, ha⟩
      have HF := Lib.hid (HZ.out.ali ha)
      clear ha
      go_wp2
      go_ret
      exact ⟨rfl, HB.out.trans (HF.out.low.mono HB.out.size)⟩
  · cases t1
    · simp only [Bool.and_true, Bool.not_false] at ACC ⊢
      have eI : ins1 4 (x, y) L = insH (x, y) L := by rw [ins1, ACC.out]; rfl
      have eJ := ins1_again (most := 4) (h := (x, y)) (L := L)
      have eK := ins1_twice (most := 4) (h := (x, y)) (L := L)
      rw [eI] at H9 eJ eK
      have hno := (acc1_yes ACC.out).2
      clear eI
      go_wp2_with fail
      refine (made_any x y w9).mono ?_
      clear d0 d1
      rintro r w10 ⟨rfl, hb⟩
      have H10 := Lib.hid (H9.out.below hb)
      have O10 := Lib.hid (O9.out.below hb)
      clear hb
      have ht := take_all b m 4 (insH (x, y) L) x y w10 H10.out.prm hx
      rw [eJ, eK] at ht
      clear eJ eK
      go_wp2_with fail
      refine ht.mono ?_
      clear ht
      rintro r w11 ⟨rfl, hf, hp⟩
      have H11 := Lib.hid (H10.out.after hf hp)
      have O11 := Lib.hid (H10.out.prm.rows hf O10.out)
      obtain ⟨d0, d1⟩ := rcells (kb_below HD.out H11.out.low)
      clear hf hp
      go_wp2_with fail
      refine (made_any x y w11).mono ?_
      clear d0 d1
      rintro r w12 ⟨rfl, hb⟩
      have H12 := Lib.hid (H11.out.below hb)
      have O12 := Lib.hid (O11.out.below hb)
      clear hb
      have ht := free_all b m 4 (insH (x, y) L) x y w12 H12.out.prm hx
      rw [outH_ins H2.out.prm.rise hno, show decide ((x, y) ∈ insH (x, y) L) = true by simp [mem_insH]] at ht
      go_wp2_with fail
      refine ht.mono ?_
      clear ht
      rintro r w13 ⟨rfl, hf, hp⟩
      have H13 := Lib.hid (H12.out.after hf hp)
      have O13 := Lib.hid (H12.out.prm.rows hf O12.out)
      obtain ⟨d0, d1⟩ := rcells (kb_below HD.out H13.out.low)
      clear hf hp
      go_wp2_with fail
      refine (made_any x y w13).mono ?_
      clear d0 d1
      rintro r w14 ⟨rfl, hb⟩
      have H14 := Lib.hid (H13.out.below hb)
      have O14 := Lib.hid (O13.out.below hb)
      clear hb
      have ht := free_all b m 4 L x y w14 H14.out.prm hx
      rw [outH_not hno, show decide ((x, y) ∈ L) = false by simp [hno]] at ht
      clear hno
      go_wp2_with fail
      refine ht.mono ?_
      clear ht
      rintro r w15 ⟨rfl, hf, hp⟩
      have HX := Lib.hid (H14.out.after hf hp)
      have OX := Lib.hid (H14.out.prm.rows hf O14.out)
      clear hf hp
      go_wp2_with fail
      refine (all_prm b m 4 L w15 HX.out.prm).mono ?_
      rintro r wy ⟨vy, rfl, ho, hb⟩
      obtain ⟨B, n2, c2, hv, hrow, hnl, _, _⟩ := ho.row'
      subst hv
      have HY := Lib.hid (HX.out.below hb)
      have OY := Lib.hid (OX.out.below hb)
      have hn : n2 ≤ 1000 := by have := hnl.out; omega
      clear ho hb
      go_wp2_with fail
      refine (real_any B n2 c2 L wy hrow hn).mono ?_
      rintro r wz ⟨vz, rfl, ho, hb⟩
      have HZ := Lib.hid (HY.out.below hb)
      have OZ := Lib.hid (OY.out.below hb)
      obtain ⟨C, n3, c3, hv, hrow3, _, _, _⟩ := ho.row'
      subst hv
      obtain ⟨E, n4, c4, hv4, hrow4, _, _, _⟩ := OZ.out.row'
      rw [hv4]
      have hsm := rsame_any C E n3 c3 n4 c4 L L wz hrow3 hrow4 HZ.out.prm.wf HZ.out.prm.wf
      rw [show decide (L = L) = true by simp] at hsm
      clear ho hb hrow hnl hn hrow3 hrow4 hv4
      go_wp2_with fail
      refine hsm.mono ?_
      clear hsm
      rintro r wx ⟨rfl, ha⟩
      have HF := Lib.hid (HZ.out.ali ha)
      clear ha
      go_wp2
      go_ret
      exact ⟨rfl, HB.out.trans (HF.out.low.mono HB.out.size)⟩
    · simp only [Bool.and_false, Bool.not_true] at ACC ⊢
      have eI : ins1 4 (x, y) L = L := by rw [ins1, ACC.out]; rfl
      rw [eI] at H9
      clear eI
      go_wp2_with fail
      refine (made_any x y w9).mono ?_
      clear d0 d1
      rintro r w10 ⟨rfl, hb⟩
      have H10 := Lib.hid (H9.out.below hb)
      have O10 := Lib.hid (O9.out.below hb)
      clear hb
      have ht := take_all b m 4 L x y w10 H10.out.prm hx
      rw [ins1, ACC.out] at ht
      go_wp2_with fail
      refine ht.mono ?_
      clear ht
      rintro r w11 ⟨rfl, hf, hp⟩
      have HX := Lib.hid (show Ow w1 w11 b m 4 L from H10.out.after hf hp)
      have OX := Lib.hid (H10.out.prm.rows hf O10.out)
      clear hf hp
      go_wp2_with fail
      refine (all_prm b m 4 L w11 HX.out.prm).mono ?_
      rintro r wy ⟨vy, rfl, ho, hb⟩
      obtain ⟨B, n2, c2, hv, hrow, hnl, _, _⟩ := ho.row'
      subst hv
      have HY := Lib.hid (HX.out.below hb)
      have OY := Lib.hid (OX.out.below hb)
      have hn : n2 ≤ 1000 := by have := hnl.out; omega
      clear ho hb
      go_wp2_with fail
      refine (real_any B n2 c2 L wy hrow hn).mono ?_
      rintro r wz ⟨vz, rfl, ho, hb⟩
      have HZ := Lib.hid (HY.out.below hb)
      have OZ := Lib.hid (OY.out.below hb)
      obtain ⟨C, n3, c3, hv, hrow3, _, _, _⟩ := ho.row'
      subst hv
      obtain ⟨E, n4, c4, hv4, hrow4, _, _, _⟩ := OZ.out.row'
      rw [hv4]
      have hsm := rsame_any C E n3 c3 n4 c4 L L wz hrow3 hrow4 HZ.out.prm.wf HZ.out.prm.wf
      rw [show decide (L = L) = true by simp] at hsm
      clear ho hb hrow hnl hn hrow3 hrow4 hv4
      go_wp2_with fail
      refine hsm.mono ?_
      clear hsm
      rintro r wx ⟨rfl, ha⟩
      have HF := Lib.hid (HZ.out.ali ha)
      clear ha
      go_wp2
      go_ret
      exact ⟨rfl, HB.out.trans (HF.out.low.mono HB.out.size)⟩

set_option maxRecDepth 100000 in
theorem lifted (os : Os) (started : os.Started) (H : Type) (enc : TypeId × Value → H) :
    ReturnsInHanded {} Try.checked os 5 .any (Rows.permitBackSpec.pre6 enc Try.prog Try.f5 Rows.permitBackRow.domain false) (Rows.permitBackSpec.post enc Try.prog Try.f5 false true false false) := by
  refine returnsInHanded_of_change_sized (C := Try.checked) own started (by kernel_rfl) Try.func5
    (ChangeSpec.witness6 (enc := enc) (C := Try.checked) false ⟨#[], #[.slice none 0 0, .agg #[.int .i64 0, .int .i64 0]], []⟩ 8 (by kernel_rfl) (by kernel_rfl) (by kernel_rfl) (by kernel_rfl)) ?_
  intro W base args ds gs before hval0 hW hcnd hsz0 _
  have hval : ∀ (j : Nat) t v, Try.f5.params[j]? = some t → args[j]? = some v → Value.okWide Try.prog W .any base t v := hval0
  have hsz : (DataW.weightsEach Try.prog (Try.f5.params.toList ++ Rows.permitBackSpec.plain.varTypes Try.prog) (ds ++ gs)).all (· ≤ reachBytes) = true := hsz0
  have hW' := hW
  obtain ⟨p, q, hA0, hV, rfl, hfz, hnd⟩ := hW
  have hA : DataW.TrodAll enc Try.prog W 0 (fun _ => true) true Try.f5.params.toList args.toList ds p := hA0
  rw [Try.params5] at hA hval hsz
  have hAk := hA
  obtain ⟨v0, vs0, d0, ds0, p0, q0, hargs, rfl, rfl, h0, r0⟩ := trodAll_cons hA
  obtain ⟨v1, vs1, d1, ds1, p1, q1, rfl, rfl, rfl, h1, r1⟩ := trodAll_cons r0
  obtain ⟨rfl, rfl, rfl⟩ := trodAll_nil r1
  obtain rfl : args = #[v0, v1] := by cases args; simp_all
  obtain ⟨rfl, rfl⟩ := trodVars_none hV
  obtain ⟨a0, l0, k0, L0, rfl, w0⟩ := open_slice_flat (ks := [.int .i64, .int .i64, .int .i64]) (bytes := 24) 8 Try.underlying22 (by kernel_rfl) (by kernel_rfl) (by decide) (by kernel_rfl) (hval 0 22 v0 rfl rfl) h0 (fun elems rest hd => by subst hd; exact sized_slice hsz (j := 0) (t := 22) (e := 32) rfl rfl Try.underlying22)
  obtain ⟨c1, rfl, w1⟩ := open_flat (ks := [.int .i64, .int .i64]) 8 (by kernel_rfl) (by kernel_rfl) (hval 1 24 v1 rfl rfl) h1
  clear hA0 hval0 hsz0
  refine (walk W a0 l0 k0 L0 w0 c1 w1).mono fun e W' ⟨he, bel⟩ => ?_
  subst he
  exact ⟨_, rfl, _, _, _, [], _, [], hW', trodAll_mk1 (shut_bool Try.underlying4 _), trodAll_below laidOut bel _ _ _ _ (by kernel_rfl) hAk, rfl, bel.frame _, fun h => by cases h⟩

theorem over : Rows.permitBackRow.holds Try.pinned (OpenSpec.ofChange Rows.permitBackSpec) :=
  OpenClaim.holds_of_wide 5 Try.f5 rfl rfl rfl rfl rfl rfl rfl ⟨rfl, rfl, rfl, rfl, rfl⟩ rfl rfl rfl rfl rfl (by kernel_rfl) Try.func5 (by kernel_rfl)
    (of_decide_eq_true (by kernel_rfl)) (by unfold Func.isWrapper; first | (rw [if_pos (by decide +kernel)]; kernel_rfl) | (rw [if_neg (by decide +kernel)]; exact ⟨rfl, rfl⟩))
    (fun os started H enc _ => lifted os started H enc)

theorem proved : Rows.PermitBackSaid := over
#print axioms proved
end Go.Proofs.Ytikocninbbkgdaa.permitBack
