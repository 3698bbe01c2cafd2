/- What is proved: BatchLead of porpoiselaw13 answers true for every input, and leaves its arguments as they were; conditions: those of the given row alone. -/
import Derived.Test.YtpehdiaihlngdaaKit
import Derived.Test.YtpehdiaihlngdaaAllM13
import Derived.Test.YtpehdiaihlngdaaLater
import Derived.Test.YtpehdiaihlngdaaSame
namespace Go.Proofs.Ytpehdiaihlngdaa.batchLead
open Go.ChangeShapes Go.WideShapes Go.ChangeAt Go.RowKit Go.Deep
open Go.ChangeMaps (open_string shut_string)
set_option linter.unusedVariables false

theorem own : ownKnob Try.prog.godebug = none := by kernel_rfl
theorem laidOut : laidOutB Try.prog = true := by kernel_rfl



set_option maxRecDepth 100000 in
set_option maxHeartbeats 2000000 in
theorem walk (w : World) (a0 : Option Addr) (l0 k0 : Nat) (L0 : List (List Value)) (w0 : SliceIn w [.int .i64, .int .i64] 16 a0 l0 k0 L0) (a1 : Int) (w1 : (Lit.int .u8 a1).wf = true) :
    Calls Try.prog 8 #[.slice a0 l0 k0, .int .u8 a1] w fun e w' => e = .returned (.bool true) ∧ Below w.heap.size w w' := by
  obtain ⟨V, hrow, hfit, _, _⟩ := pairs_in w0
  have hb := bounds_u8 w1
  obtain ⟨m6, hm6⟩ : ∃ m6 : Nat, a1 % 6 = m6 := ⟨(a1 % 6).toNat, by omega⟩
  have HR := Lib.hid hrow
  have HF := Lib.hid hfit
  have GD := Lib.hid (allS_good (1 + (m6 : Int)) (V.take 20))
  clear w0 w1 hrow hfit
  go_enter Try.func8, Try.ntmps8
  go_wp2_with fail
  refine (awake_any w).mono ?_
  rintro r wa ⟨rfl, ba⟩
  have LA := Lib.hid ba
  clear ba
  go_wp2_with fail
  refine (all_any a0 l0 k0 V (1 + (m6 : Int)) wa (HR.out.later LA.out) HF.out).mono ?_
  rintro r w2 ⟨A, n, c, M, m, d, T, t, f, rfl, bt, rt, _, up, b2⟩
  have k2 := heap_alloc_at w2 (bobj 31 A n c M m d)
  have b3 := below_alloc w2 (bobj 31 A n c M m d)
  have B3 := Lib.hid (LA.out.trans ((b2.trans (b3.mono b2.size)).mono LA.out.size))
  have BT := Lib.hid (bt.below b3)
  have RT := Lib.hid (rt.later b3)
  have K3 := Lib.hid k2
  have AL := Lib.hid bt.alen
  have EV : Hid (l0 = 0 → (allS (1 + (m6 : Int)) (V.take 20)).zs = [] ∧ (allS (1 + (m6 : Int)) (V.take 20)).ms = []) := Lib.hid (fun e => by
    rw [show V = [] from List.eq_nil_of_length_eq_zero (by rw [HR.out.1, e])]
    exact ⟨rfl, rfl⟩)
  generalize hg : w2.heap.size = g at *
  by_cases hl : l0 = 0
  · have hl' : ((l0 : Int) == 0) = true := by simp [hl]
    obtain ⟨e1, e2⟩ := EV.out hl
    have hn : n = 0 := by rw [← AL.out, e1]; rfl
    subst hn
    have LD := Lib.hid (fun wx hb => lead_any A 0 c M m d _ _ wx (BT.out.below hb))
    rw [e2] at LD
    clear k2 b2 b3 bt rt up hl e1 e2 EV
    go_wp2_with fail
    generalize w2.alloc (bobj 31 A 0 c M m d) = w3 at *
    refine (LD.out w3 (Below.refl _ _)).mono ?_
    rw [show leadL [] = 0 from rfl]
    rintro r w4 ⟨rfl, b4⟩
    obtain ⟨c0, c1⟩ := bobj_cells (kb_below K3.out b4)
    have K4 := Lib.hid (kb_below K3.out b4)
    have B4 := Lib.hid (B3.out.trans (b4.mono B3.out.size))
    clear b4 B3 K3
    go_wp2_with fail
    refine (full_any A 0 c M m d 0 w4).mono ?_
    rintro r w5 ⟨rfl, b5⟩
    obtain ⟨d0, d1⟩ := bobj_cells (kb_below K4.out b5)
    have B5 := Lib.hid (B4.out.trans (b5.mono B4.out.size))
    clear b5 B4 K4 c0 c1
    go_wp2_with fail
    refine (full_any A 0 c M m d 1 w5).mono ?_
    rintro r w6 ⟨rfl, b6⟩
    have B6 := Lib.hid (B5.out.trans (b6.mono B5.out.size))
    clear b6 B5 d0 d1
    go_wp2
    go_ret
    exact ⟨rfl, B6.out⟩
  · have hl' : ((l0 : Int) == 0) = false := by simp [hl]
    have hl0 : 0 < l0 := by omega
    obtain ⟨lb, lo, x, rfl, hx, q0, q1⟩ := (HR.out.later B3.out).pair_at (i := 0) hl0
    obtain ⟨U, hU⟩ : ∃ U, V.take 20 = x :: U := by
      cases V with
      | nil => cases hx
      | cons y V => simp only [List.getElem?_cons_zero, Option.some.injEq] at hx; subst hx; exact ⟨_, rfl⟩
    have hxf := HF.out x (List.mem_of_getElem? hx)
    have hf := allS_first (1 + (m6 : Int)) x U
    rw [← hU] at hf
    obtain ⟨hld, hzl⟩ := GD.out.lead hf
    have ht : 0 < t := by rw [← RT.out.1]; exact (List.getElem?_eq_some_iff.1 hf).1
    obtain ⟨tb, tq, y, rfl, hy, p0, p1⟩ := RT.out.pair_at (i := 0) ht
    obtain rfl : y = x := Option.some.inj (hy.symm.trans hf)
    have LD := Lib.hid (fun wx hb => lead_any A n c M m d _ _ wx (BT.out.below hb))
    rw [hld] at LD
    have hn1 : (1 : Int) ≤ n := by have := AL.out; omega
    have hflat : Flat [.int .i64, .int .i64] (#[Value.int .i64 y.a, .int .i64 y.b]).toList := ⟨⟨_, rfl, hxf.1.lit⟩, ⟨_, rfl, hxf.2.lit⟩, trivial⟩
    have hsame : ∀ wx, (Op.equalIn 10000 58 (.agg #[.int .i64 y.a, .int .i64 y.b]) (.agg #[.int .i64 y.a, .int .i64 y.b])).run Try.prog wx = .ok true wx := fun wx =>
      same_yes (P := Try.prog) (t := 58) 8 (by decide) (by kernel_rfl) (by kernel_rfl) (by kernel_rfl) (by kernel_rfl) hflat wx
    simp only [Nat.zero_mul, Nat.add_zero] at q0 q1 p0 p1
    clear k2 b2 b3 bt rt up hl EV hx hU hf hy hzl hld
    go_wp2_with (fail)
    generalize w2.alloc (bobj 31 A n c M m d) = w3 at *
    obtain ⟨c0, c1⟩ := bobj_cells K3.out
    have LB : ∀ p : Later w3, (Instr.loadAt 31 (.pointer (some ⟨g, 0, none⟩))).run Try.prog p.v = .ok (batV A n c M m d) p.v := fun p => loadB (p.heap K3.out)
    have LF : ∀ p : Later w3, p.v.cell? ⟨g, 0, none⟩ = some (.slice A n c) := fun p => p.cell c0
    have L0 : ∀ p : Later w3, p.v.cell? ⟨lb, lo, none⟩ = some (.int .i64 y.a) := fun p => p.cell q0
    have L1 : ∀ p : Later w3, p.v.cell? ⟨lb, lo + 1, none⟩ = some (.int .i64 y.b) := fun p => p.cell q1
    have L2 : ∀ p : Later w3, p.v.cell? ⟨tb, tq, none⟩ = some (.int .i64 y.a) := fun p => p.cell p0
    have L3 : ∀ p : Later w3, p.v.cell? ⟨tb, tq + 1, none⟩ = some (.int .i64 y.b) := fun p => p.cell p1
    clear q0 q1 p0 p1 c0 c1
    refine wp_region_later (by kernel_rfl) (by kernel_rfl) ?_
    repeat (first
      | (refine wpQuiet_load rfl 31 _ rfl g rfl (batV A n c M m d) LB ?_; simp only [Act.put, List.setIfInBounds_toArray, List.set_cons_zero, List.set_cons_succ])
      | go_big_quiet_step (first | (go_at_call 20; with_reducible exact Calls.later_of (LD.out _ (Later.low _)))))
    refine wpQuiet_nil ?_
    rintro w10 ⟨⟨_, b10⟩, rfl⟩
    go_wp2
    go_ret
    exact ⟨rfl, B3.out.trans (b10.mono B3.out.size)⟩

set_option maxRecDepth 100000 in
theorem lifted (os : Os) (started : os.Started) (H : Type) (enc : TypeId × Value → H) :
    ReturnsInHanded {} Try.checked os 8 .any (Rows.batchLeadSpec.pre6 enc Try.prog Try.f8 Rows.batchLeadRow.domain false) (Rows.batchLeadSpec.post enc Try.prog Try.f8 false true false false) := by
  refine returnsInHanded_of_change_sized (C := Try.checked) own started (by kernel_rfl) Try.func8
    (ChangeSpec.witness6 (enc := enc) (C := Try.checked) false ⟨#[], #[.slice none 0 0, .int .u8 0], []⟩ 8 (by kernel_rfl) (by kernel_rfl) (by kernel_rfl) (by kernel_rfl)) ?_
  intro W base args ds gs before hval0 hW hcnd hsz0 _
  have hval : ∀ (j : Nat) t v, Try.f8.params[j]? = some t → args[j]? = some v → Value.okWide Try.prog W .any base t v := hval0
  have hsz : (DataW.weightsEach Try.prog (Try.f8.params.toList ++ Rows.batchLeadSpec.plain.varTypes Try.prog) (ds ++ gs)).all (· ≤ reachBytes) = true := hsz0
  have hW' := hW
  obtain ⟨p, q, hA0, hV, rfl, hfz, hnd⟩ := hW
  have hA : DataW.TrodAll enc Try.prog W 0 (fun _ => true) true Try.f8.params.toList args.toList ds p := hA0
  rw [Try.params8] at hA hval hsz
  have hAk := hA
  obtain ⟨v0, vs0, d0, ds0, p0, q0, hargs, rfl, rfl, h0, r0⟩ := trodAll_cons hA
  obtain ⟨v1, vs1, d1, ds1, p1, q1, rfl, rfl, rfl, h1, r1⟩ := trodAll_cons r0
  obtain ⟨rfl, rfl, rfl⟩ := trodAll_nil r1
  obtain rfl : args = #[v0, v1] := by cases args; simp_all
  obtain ⟨rfl, rfl⟩ := trodVars_none hV
  obtain ⟨a0, l0, k0, L0, rfl, w0⟩ := open_slice_flat (ks := [.int .i64, .int .i64]) (bytes := 16) 8 Try.underlying54 (by kernel_rfl) (by kernel_rfl) (by decide) (by kernel_rfl) (hval 0 54 v0 rfl rfl) h0 (fun elems rest hd => by subst hd; exact sized_slice hsz (j := 0) (t := 54) (e := 58) rfl rfl Try.underlying54)
  obtain ⟨a1, rfl, rfl, rfl, w1⟩ := open_int Try.underlying5 (hval 1 5 v1 rfl rfl) h1
  clear hA0 hval0 hsz0
  refine (walk W a0 l0 k0 L0 w0 a1 w1).mono fun e W' ⟨he, bel⟩ => ?_
  subst he
  exact ⟨_, rfl, _, _, _, [], _, [], hW', trodAll_mk1 (shut_bool Try.underlying4 _), trodAll_below laidOut bel _ _ _ _ (by kernel_rfl) hAk, rfl, bel.frame _, fun h => by cases h⟩

theorem over : Rows.batchLeadRow.holds Try.pinned (OpenSpec.ofChange Rows.batchLeadSpec) :=
  OpenClaim.holds_of_wide 8 Try.f8 rfl rfl rfl rfl rfl rfl rfl ⟨rfl, rfl, rfl, rfl, rfl⟩ rfl rfl rfl rfl rfl (by kernel_rfl) Try.func8 (by kernel_rfl)
    (of_decide_eq_true (by kernel_rfl)) (by unfold Func.isWrapper; first | (rw [if_pos (by decide +kernel)]; kernel_rfl) | (rw [if_neg (by decide +kernel)]; exact ⟨rfl, rfl⟩))
    (fun os started H enc _ => lifted os started H enc)

theorem proved : Rows.BatchLeadSaid := over
#print axioms proved
end Go.Proofs.Ytpehdiaihlngdaa.batchLead
