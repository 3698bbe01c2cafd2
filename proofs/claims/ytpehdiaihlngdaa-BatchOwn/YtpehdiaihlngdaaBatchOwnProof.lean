/- What is proved: BatchOwn of porpoiselaw13 answers true for every input, and leaves its arguments as they were; conditions: those of the given row alone. -/
import Derived.Test.YtpehdiaihlngdaaKit
import Derived.Test.YtpehdiaihlngdaaAllM13
import Derived.Test.YtpehdiaihlngdaaLater
namespace Go.Proofs.Ytpehdiaihlngdaa.batchOwn
open Go.ChangeShapes Go.WideShapes Go.ChangeAt Go.RowKit Go.Deep
open Go.ChangeMaps (open_string shut_string)
set_option linter.unusedVariables false

theorem own : ownKnob Try.prog.godebug = none := by kernel_rfl
theorem laidOut : laidOutB Try.prog = true := by kernel_rfl

/-- What an argument is told. -/
abbrev valO (z : Int) : Int := wrap64 (1000 - z)

set_option maxRecDepth 100000 in
set_option maxHeartbeats 2000000 in
theorem walk (w : World) (a0 : Option Addr) (l0 k0 : Nat) (L0 : List (List Value)) (w0 : SliceIn w [.int .i64, .int .i64] 16 a0 l0 k0 L0) (a1 : Int) (w1 : (Lit.int .u8 a1).wf = true) :
    Calls Try.prog 4 #[.slice a0 l0 k0, .int .u8 a1] w fun e w' => e = .returned (.bool true) ∧ Below w.heap.size w w' := by
  obtain ⟨V, hrow, hfit, _, _⟩ := pairs_in w0
  have hb := bounds_u8 w1
  obtain ⟨m6, hm6⟩ : ∃ m6 : Nat, a1 % 6 = m6 := ⟨(a1 % 6).toNat, by omega⟩
  have hm5 : m6 ≤ 5 := by omega
  have HR := Lib.hid hrow
  have HF := Lib.hid hfit
  have GD := Lib.hid (allS_good (1 + (m6 : Int)) (V.take 20))
  have ZL := Lib.hid (allS_len (most := 1 + (m6 : Int)) (by omega) (V.take 20))
  clear w0 w1 hrow hfit
  go_enter Try.func4, Try.ntmps4
  go_wp2_with fail
  refine (awake_any w).mono ?_
  rintro r wa ⟨rfl, ba⟩
  have LA := Lib.hid ba
  clear ba
  go_wp2_with fail
  refine (all_any a0 l0 k0 V (1 + (m6 : Int)) wa (HR.out.later LA.out) HF.out).mono ?_
  rintro r w2 ⟨A, n, c, M, m, d, T, t, f, rfl, bt, rt, _, up, b2⟩
  have k2 := heap_alloc_at w2 (bobj 31 A n c M m d)
  have b3 := below_alloc w2 (bobj 31 A n c M m d)
  have B3 := Lib.hid (LA.out.trans ((b2.trans (b3.mono b2.size)).mono LA.out.size))
  have BT := Lib.hid (bt.below b3)
  have RT := Lib.hid (rt.later b3)
  have K3 := Lib.hid k2
  have AL := Lib.hid bt.alen
  have MLn := Lib.hid bt.mlen
  have hn20 : n ≤ 1000 := by have h1 := up.1; have h2 := AL.out; omega
  have hm20 : m ≤ 1000 := by have h1 := up.2.1; have h2 := MLn.out; omega
  have hnm : ¬ 1 + (m6 : Int) < n := by have h1 := ZL.out; rw [AL.out] at h1; omega
  have hmt : t = m := by rw [← RT.out.1, ← MLn.out, GD.out.mlen]
  subst hmt
  generalize hg : w2.heap.size = g at *
  clear k2 b2 b3 bt rt up LA ZL
  go_wp2_with fail
  generalize w2.alloc (bobj 31 A n c M t d) = w3 at *
  generalize allS (1 + (m6 : Int)) (V.take 20) = S at *
  go_loopg [10, 9] n (fun q v10 v9 wr => ∃ i : Nat, i + q = n ∧ v10 = .int .i64 i ∧ OwnR irec wr w3.heap.size 3 v9 ((S.zs.take i).map valO) ∧ Below w3.heap.size w3 wr)
  case atStart => exact ⟨0, by omega, rfl, by simpa using OwnR.nil _ _ _, Below.refl _ _⟩
  case round =>
    obtain ⟨i, hq, rfl, hown, hl⟩ := hrel
    have G := Lib.hid hq
    have L := Lib.hid hl
    have OWN := Lib.hid hown
    clear hq hl hown
    obtain ⟨c0, c1⟩ := bobj_cells (kb_below K3.out L.out)
    by_cases hin : i < n
    · have hi1 : (i : Int) < n := by omega
      obtain ⟨zb, zo, z, rfl, hz, q0⟩ := (BT.out.below L.out).ar.int_at hin
      have HZ := Lib.hid hz
      have O1 := Lib.hid (OwnR.below OWN.out (below_alloc wr (.cells #[.int .i64 (valO z)] 3)))
      have S1 := Lib.hid (RowR.one (R := irec) wr (valO z) 3 (cs := #[.int .i64 (valO z)]) rfl)
      have LN : Hid (((S.zs.take i).map valO).length + 1 ≤ 1048576) := Lib.hid (by rw [List.length_map, List.length_take]; omega)
      have BB : Hid (w3.heap.size ≤ (wr.alloc (.cells #[.int .i64 (valO z)] 3)).heap.size) := Lib.hid (Nat.le_trans L.out.size (below_alloc wr _).size)
      clear hz c1 OWN
      go_wp2_with (first
        | (at_builtin; refine wpList_appS tI (base := w3.heap.size) rfl (.tmp 33) (.tmp 40) rfl rfl rfl O1.out S1.out LN.out BB.out ?_;
           intro v5 w5 own5 gr5 _; have l5 : Below w3.heap.size w3 w5 := L.out.trans (((below_alloc wr (.cells #[.int .i64 (valO z)] 3)).mono L.out.size).trans (grown_low gr5 BB.out (fun b hb => O1.out.low b hb))); have O5 := Lib.hid own5; have L5 := Lib.hid l5; clear own5 gr5 l5)
        | fail)
      clear c0 q0 O1 S1 LN BB
      go_loopg [11] i (fun p v11 wr => ∃ k : Nat, k + p = i ∧ v11 = .int .i64 k ∧ Below w5.heap.size w5 wr)
      case atStart => exact ⟨0, by omega, rfl, Below.refl _ _⟩
      case round =>
        obtain ⟨k, hp, rfl, hl6⟩ := hrel
        have P := Lib.hid hp
        have L6 := Lib.hid (L5.out.trans (hl6.mono L5.out.size))
        have O6 := Lib.hid (OwnR.below O5.out hl6)
        have L56 := Lib.hid hl6
        clear hp hl6
        by_cases hki : k < i
        · have hki1 : (k : Int) < i := by omega
          obtain ⟨zb', zo', y, e0, hy, q1⟩ := (BT.out.below L6.out).ar.int_at (show k < n by omega)
          cases e0
          obtain ⟨zb', zo', z', e0, hz', q2⟩ := (BT.out.below L6.out).ar.int_at hin
          cases e0
          obtain rfl : z' = z := Option.some.inj (hz'.symm.trans HZ.out)
          have hne : z' ≠ y := fun e => by
            have h1 := (List.getElem?_eq_some_iff.1 hy)
            have h2 := (List.getElem?_eq_some_iff.1 hz')
            obtain ⟨h1, h3⟩ := h1
            obtain ⟨h2, h4⟩ := h2
            have h5 := (List.getElem_inj (xs := S.zs) (h₀ := h1) (h₁ := h2) GD.out.nd).1 (h3.trans (e.symm.trans h4.symm))
            omega
          have hne' : (z' == y) = false := by simp [hne]
          obtain ⟨c0, c1⟩ := bobj_cells (kb_below K3.out L6.out)
          have LF : ∀ p : Later wr, p.v.cell? ⟨g, 0, none⟩ = some (.slice (some ⟨zb, zo, none⟩) n c) := fun p => p.cell c0
          have M0 : ∀ p : Later wr, p.v.cell? ⟨zb, zo + k, none⟩ = some (.int .i64 y) := fun p => p.cell q1
          have M1 : ∀ p : Later wr, p.v.cell? ⟨zb, zo + i, none⟩ = some (.int .i64 z') := fun p => p.cell q2
          have hkn : (k : Int) < n := by omega
          clear c0 c1 q1 q2 hy hz' hne
          go_wp2
          refine wp_region_later (by kernel_rfl) (by kernel_rfl) ?_
          repeat go_big_quiet_step (fail)
          refine wpQuiet_nil ?_
          rintro w10 ⟨⟨_, b10⟩, rfl⟩
          have L10 := Lib.hid (L56.out.trans (b10.mono L56.out.size))
          clear b10 LF M0 M1
          go_wp2
          go_roundg (i - (k + 1))
          case measure => have := P.out; omega
          case rel => exact ⟨k + 1, by omega, by simp, L10.out⟩
        · have hki1 : ¬ (k : Int) < i := by omega
          go_wp2
          go_roundg (n - (i + 1))
          case measure => have := G.out; omega
          case rel =>
            refine ⟨i + 1, by omega, by simp, ?_, L6.out⟩
            rw [take_more HZ.out, List.map_append]
            exact O6.out
    · have hi1 : ¬ (i : Int) < n := by omega
      have hin' : i = n := by have := G.out; omega
      subst hin'
      rw [List.take_of_length_le (by rw [AL.out]; omega)] at OWN
      obtain ⟨B, b, e, hv9, rb, _, hbe, _⟩ := OWN.out.row'
      subst hv9
      have hbl : b = i := by have := rb.1; rw [List.length_map, AL.out] at this; omega
      subst hbl
      have B4 := Lib.hid (BT.out.below L.out)
      have K4 := Lib.hid (kb_below K3.out L.out)
      have L4 := Lib.hid (B3.out.trans (L.out.mono B3.out.size))
      have T4 := Lib.hid (RT.out.later L.out)
      have sy := GD.out.splits (vs := S.zs.map valO) (by simp)
      have sp := split_is A b c M t d S.zs S.ms B b e (S.zs.map valO) wr B4.out rb hm20 sy ((splitL_yes sy).trans (GD.out.owns valO)) (q := t) (by rw [List.length_map]; exact RT.out.1)
      have SP := Lib.hid sp
      clear K3 BT B3 L RT OWN rb sy sp hin
      go_wp2_with fail
      clear c0 c1
      refine SP.out.mono ?_
      rintro r w5 ⟨P, f5, rfl, rp, _, b5⟩
      obtain ⟨c0, c1⟩ := bobj_cells (kb_below K4.out b5)
      have RP := Lib.hid rp
      have L5 := Lib.hid (L4.out.trans (b5.mono L4.out.size))
      have T5 := Lib.hid (T4.out.later b5)
      clear SP b5 rp K4 L4 T4 B4
      go_wp2
      clear c0 c1
      go_loopg [14] t (fun q v14 wr => ∃ j : Nat, j + q = t ∧ v14 = .int .i64 j ∧ Below w5.heap.size w5 wr)
      case atStart => exact ⟨0, by omega, rfl, Below.refl _ _⟩
      case round =>
        obtain ⟨j, hq, rfl, hl⟩ := hrel
        have G := Lib.hid hq
        have L := Lib.hid hl
        clear hq hl
        by_cases hjt : j < t
        · have hj1 : (j : Int) < t := by omega
          obtain ⟨tb, tq, x, rfl, hx, q0, q1⟩ := (T5.out.later L.out).pair_at hjt
          obtain ⟨pb, pq, y, rfl, hy, q2, q3⟩ := (RP.out.later L.out).pair_at hjt
          rw [List.getElem?_map, hx] at hy
          simp only [Option.map_some, Option.some.injEq] at hy
          subst hy
          have LT0 : ∀ p : Later wr, p.v.cell? ⟨tb, tq + j * 2, none⟩ = some (.int .i64 x.a) := fun p => p.cell q0
          have LT1 : ∀ p : Later wr, p.v.cell? ⟨tb, tq + j * 2 + 1, none⟩ = some (.int .i64 x.b) := fun p => p.cell q1
          have LP0 : ∀ p : Later wr, p.v.cell? ⟨pb, pq + j * 2, none⟩ = some (.int .i64 x.a) := fun p => p.cell q2
          have LP1 : ∀ p : Later wr, p.v.cell? ⟨pb, pq + j * 2 + 1, none⟩ = some (.int .i64 (valO x.b)) := fun p => p.cell q3
          have hwr : IntKind.i64.wrap (1000 - x.b) = wrap64 (1000 - x.b) := IntWalk.i64_left _
          clear hx q0 q1 q2 q3
          go_wp2
          refine wp_region_later (by kernel_rfl) (by kernel_rfl) ?_
          repeat go_big_quiet_step (fail)
          refine wpQuiet_nil ?_
          rintro w10 ⟨⟨_, b10⟩, rfl⟩
          have L10 := Lib.hid (L.out.trans (b10.mono L.out.size))
          clear b10 LT0 LT1 LP0 LP1
          go_wp2
          go_roundg (t - (j + 1))
          case measure => have := G.out; omega
          case rel => exact ⟨j + 1, by omega, by simp, L10.out⟩
        · have hj1 : ¬ (j : Int) < t := by omega
          go_wp2
          go_ret
          exact ⟨rfl, L5.out.trans (L.out.mono L5.out.size)⟩

set_option maxRecDepth 100000 in
theorem lifted (os : Os) (started : os.Started) (H : Type) (enc : TypeId × Value → H) :
    ReturnsInHanded {} Try.checked os 4 .any (Rows.batchOwnSpec.pre6 enc Try.prog Try.f4 Rows.batchOwnRow.domain false) (Rows.batchOwnSpec.post enc Try.prog Try.f4 false true false false) := by
  refine returnsInHanded_of_change_sized (C := Try.checked) own started (by kernel_rfl) Try.func4
    (ChangeSpec.witness6 (enc := enc) (C := Try.checked) false ⟨#[], #[.slice none 0 0, .int .u8 0], []⟩ 8 (by kernel_rfl) (by kernel_rfl) (by kernel_rfl) (by kernel_rfl)) ?_
  intro W base args ds gs before hval0 hW hcnd hsz0 _
  have hval : ∀ (j : Nat) t v, Try.f4.params[j]? = some t → args[j]? = some v → Value.okWide Try.prog W .any base t v := hval0
  have hsz : (DataW.weightsEach Try.prog (Try.f4.params.toList ++ Rows.batchOwnSpec.plain.varTypes Try.prog) (ds ++ gs)).all (· ≤ reachBytes) = true := hsz0
  have hW' := hW
  obtain ⟨p, q, hA0, hV, rfl, hfz, hnd⟩ := hW
  have hA : DataW.TrodAll enc Try.prog W 0 (fun _ => true) true Try.f4.params.toList args.toList ds p := hA0
  rw [Try.params4] at hA hval hsz
  have hAk := hA
  obtain ⟨v0, vs0, d0, ds0, p0, q0, hargs, rfl, rfl, h0, r0⟩ := trodAll_cons hA
  obtain ⟨v1, vs1, d1, ds1, p1, q1, rfl, rfl, rfl, h1, r1⟩ := trodAll_cons r0
  obtain ⟨rfl, rfl, rfl⟩ := trodAll_nil r1
  obtain rfl : args = #[v0, v1] := by cases args; simp_all
  obtain ⟨rfl, rfl⟩ := trodVars_none hV
  obtain ⟨a0, l0, k0, L0, rfl, w0⟩ := open_slice_flat (ks := [.int .i64, .int .i64]) (bytes := 16) 8 Try.underlying54 (by kernel_rfl) (by kernel_rfl) (by decide) (by kernel_rfl) (hval 0 54 v0 rfl rfl) h0 (fun elems rest hd => by subst hd; exact sized_slice hsz (j := 0) (t := 54) (e := 58) rfl rfl Try.underlying54)
  obtain ⟨a1, rfl, rfl, rfl, w1⟩ := open_int Try.underlying5 (hval 1 5 v1 rfl rfl) h1
  clear hA0 hval0 hsz0
  refine (walk W a0 l0 k0 L0 w0 a1 w1).mono fun e W' ⟨he, bel⟩ => ?_
  subst he
  exact ⟨_, rfl, _, _, _, [], _, [], hW', trodAll_mk1 (shut_bool Try.underlying4 _), trodAll_below laidOut bel _ _ _ _ (by kernel_rfl) hAk, rfl, bel.frame _, fun h => by cases h⟩

theorem over : Rows.batchOwnRow.holds Try.pinned (OpenSpec.ofChange Rows.batchOwnSpec) :=
  OpenClaim.holds_of_wide 4 Try.f4 rfl rfl rfl rfl rfl rfl rfl ⟨rfl, rfl, rfl, rfl, rfl⟩ rfl rfl rfl rfl rfl (by kernel_rfl) Try.func4 (by kernel_rfl)
    (of_decide_eq_true (by kernel_rfl)) (by unfold Func.isWrapper; first | (rw [if_pos (by decide +kernel)]; kernel_rfl) | (rw [if_neg (by decide +kernel)]; exact ⟨rfl, rfl⟩))
    (fun os started H enc _ => lifted os started H enc)

theorem proved : Rows.BatchOwnSaid := over
#print axioms proved
end Go.Proofs.Ytpehdiaihlngdaa.batchOwn
