/- What is proved: WindowLasts of porpoiselaw06 answers true for every input, and leaves its arguments as they were; conditions: those of the given row alone. -/
import Derived.Test.YtmnfncgalnhplaaKit
import Derived.Test.YtmnfncgalnhplaaLaw06
import Derived.Deep.RegionHeld3
namespace Go.Proofs.Ytmnfncgalnhplaa.windowLasts
open Go.ChangeShapes Go.WideShapes Go.ChangeAt Go.RowKit Go.Deep
open Go.ChangeMaps (open_string shut_string)
set_option linter.unusedVariables false

theorem own : ownKnob Try.prog.godebug = none := by kernel_rfl
theorem laidOut : laidOutB Try.prog = true := by kernel_rfl

theorem five0 {w : World} {g : Nat} (h : w.heap[g]? = some (tobj [0, 0, 0, 0, 0])) : w.cell? ⟨g, 0, none⟩ = some (.int .u64 0) ∧ w.cell? ⟨g, 1, none⟩ = some (.int .u64 0) ∧ w.cell? ⟨g, 2, none⟩ = some (.int .u64 0) ∧ w.cell? ⟨g, 3, none⟩ = some (.int .u64 0) ∧ w.cell? ⟨g, 4, none⟩ = some (.int .u64 0) :=
  ⟨tobj_cell h rfl, tobj_cell h rfl, tobj_cell h rfl, tobj_cell h rfl, tobj_cell h rfl⟩
/-- Three windows, beside each other, and five zeros. -/
structure Three (w0 w : World) (g a b c B W ta tb tc : Nat) (F : Cnt) : Prop where
  oa : OwW w0 w a B W ta F
  ob : OwW w0 w b B W tb F
  oc : OwW w0 w c B W tc F
  ab : a ≠ b
  ac : a ≠ c
  bc : b ≠ c
  og : w.heap[g]? = some (tobj [0, 0, 0, 0, 0])
section
variable {w0 w w' : World} {g a b c B W ta tb tc t' : Nat} {F : Cnt}
theorem Three.ali (h : Three w0 w g a b c B W ta tb tc F) (ha : Ali w w') : Three w0 w' g a b c B W ta tb tc F :=
  ⟨h.oa.ali ha, h.ob.ali ha, h.oc.ali ha, h.ab, h.ac, h.bc, by rw [ha.heap]; exact h.og⟩
theorem Three.onA (h : Three w0 w g a b c B W ta tb tc F) (hf : Frm (· = a) w w') (ho : OwW w0 w' a B W t' F) : Three w0 w' g a b c B W t' tb tc F :=
  ⟨ho, h.ob.beside hf h.oa.new h.ab.symm, h.oc.beside hf h.oa.new h.ac.symm, h.ab, h.ac, h.bc, h.oa.win.kept hf h.og (by decide)⟩
theorem Three.onB (h : Three w0 w g a b c B W ta tb tc F) (hf : Frm (· = b) w w') (ho : OwW w0 w' b B W t' F) : Three w0 w' g a b c B W ta t' tc F :=
  ⟨h.oa.beside hf h.ob.new h.ab, ho, h.oc.beside hf h.ob.new h.bc.symm, h.ab, h.ac, h.bc, h.ob.win.kept hf h.og (by decide)⟩
theorem Three.onC (h : Three w0 w g a b c B W ta tb tc F) (hf : Frm (· = c) w w') (ho : OwW w0 w' c B W t' F) : Three w0 w' g a b c B W ta tb t' F :=
  ⟨h.oa.beside hf h.oc.new h.ac, h.ob.beside hf h.oc.new h.bc, ho, h.ab, h.ac, h.bc, h.oc.win.kept hf h.og (by decide)⟩
end
theorem end_of (q B W : Nat) (hW : 1 ≤ W) (hB : 1 ≤ B) : ((q + B) * W - 1) / W = q + B - 1 ∧ (q + B) * W / W = q + B := by
  refine ⟨?_, Nat.mul_div_cancel _ (by omega)⟩
  obtain ⟨m, hm⟩ : ∃ m, q + B = m + 1 := ⟨q + B - 1, by omega⟩
  rw [hm, Nat.succ_mul, show m * W + W - 1 = W * m + (W - 1) by rw [Nat.mul_comm]; omega, Nat.mul_add_div (by omega), Nat.div_eq_of_lt (show W - 1 < W by omega)]
  omega

set_option maxRecDepth 100000 in
set_option maxHeartbeats 2000000 in
theorem walk (w : World) (c0 : Array Value) (w0 : Flat [.int .u8, .int .u8] c0.toList) (a1 : Int) (w1 : (Lit.int .u16 a1).wf = true) (a2 : Int) (w2 : (Lit.int .u32 a2).wf = true) :
    Calls Try.prog 3 #[.agg c0, .int .u16 a1, .int .u32 a2] w fun e w' => e = .returned (.bool true) ∧ Below w.heap.size w w' := by
  obtain ⟨x, y, rfl, hx0, hy0⟩ := w0.two
  have bx := bounds_u8 hx0
  have bY := bounds_u8 hy0
  have b1 := bounds_u16 w1
  have b2 := bounds_u32 w2
  clear w0 hx0 hy0 w1 w2
  obtain ⟨m, hm⟩ : ∃ m : Nat, x % 8 = m := ⟨(x % 8).toNat, by omega⟩
  obtain ⟨B, hB⟩ : ∃ B : Nat, 1 + (m : Int) = B := ⟨1 + m, by omega⟩
  have hB1 : 1 ≤ B := by omega
  have hB8 : B ≤ 8 := by omega
  obtain ⟨k, hk⟩ : ∃ k : Nat, y % 5 = k := ⟨(y % 5).toNat, by omega⟩
  have k5 : k < 5 := by omega
  obtain ⟨W, hW⟩ : ∃ W : Nat, 1 + a1 = W := ⟨(1 + a1).toNat, by omega⟩
  have hW1 : 1 ≤ W := by omega
  have hWm : W ≤ 65536 := by omega
  obtain ⟨tm, rfl⟩ : ∃ tm : Nat, a2 = tm := ⟨a2.toNat, by omega⟩
  obtain ⟨q, hq⟩ : ∃ q : Nat, tm / W = q := ⟨_, rfl⟩
  have hqi : (tm : Int) / (W : Int) = (q : Int) := by rw [← hq]; exact (Int.natCast_ediv tm W).symm
  have hqm : q ≤ 4294967295 := by rw [← hq]; exact Nat.le_trans (Nat.div_le_self _ _) (by omega)
  have hqW : q * W ≤ tm := by rw [← hq]; exact Nat.div_mul_le_self _ _
  have hBW : B * W ≤ 8 * 65536 := Nat.mul_le_mul hB8 hWm
  obtain ⟨e, he⟩ : ∃ e : Nat, (q + B) * W = e := ⟨_, rfl⟩
  have hem : e ≤ 4295491583 := by rw [← he, Nat.add_mul]; omega
  have he1 : 1 ≤ e := by rw [← he, Nat.add_mul]; have := Nat.mul_le_mul hB1 hW1; omega
  have hei : ((q : Int) + (B : Int)) * (W : Int) = (e : Int) := by rw [← he]; simp
  obtain ⟨e1, hee⟩ : ∃ e1 : Nat, e - 1 = e1 := ⟨_, rfl⟩
  have hew : IntKind.u64.wrap ((e : Int) - 1) = (e1 : Int) := by rw [IntKind.wrap_u64]; omega
  have d1 : e1 / W = q + B - 1 := by rw [← hee, ← he]; exact (end_of q B W hW1 hB1).1
  have d2 : e / W = q + B := by rw [← he]; exact (end_of q B W hW1 hB1).2
  have D1 := Lib.hid d1
  have D2 := Lib.hid d2
  have HQ := Lib.hid hq
  have he1m : e1 ≤ 4295491583 := by omega
  have hb0 := below_alloc w (.cells #[.int .u8 x, .int .u8 y] 22)
  have hh0 := heap_alloc_at w (.cells #[.int .u8 x, .int .u8 y] 22)
  generalize hw0 : w.alloc (.cells #[.int .u8 x, .int .u8 y] 22) = v0 at *
  have HB0 := Lib.hid hb0
  have HH0 := Lib.hid hh0
  clear hb0 hh0 hq he d1 d2 hee hqW hBW
  go_enter Try.func3, Try.ntmps3
  go_wp2_with fail
  refine (awake_any v0).mono ?_
  rintro r wa ⟨rfl, hba⟩
  have HA := Lib.hid hba
  have hb := kb_below HH0.out hba
  have p0 : wa.cell? ⟨w.heap.size, 0, none⟩ = some (.int .u8 x) := by rw [cell_of hb]; rfl
  have p1 : wa.cell? ⟨w.heap.size, 1, none⟩ = some (.int .u8 y) := by rw [cell_of hb]; rfl
  clear hba hw0 hb
  go_wp2_with fail
  refine (ow_new v0 wa B W hB1 hB8 hW1 (by omega) HA.out).mono ?_
  rintro r w1 ⟨rfl, o1, _⟩
  generalize wa.heap.size = ba at *
  have O1 := Lib.hid o1
  clear o1 p0 p1
  go_wp2_with fail
  refine (ow_new v0 w1 B W hB1 hB8 hW1 (by omega) O1.out.low).mono ?_
  rintro r w2 ⟨rfl, o2, hbl⟩
  have o1 := O1.out.below hbl
  have hab : ba ≠ w1.heap.size := by have := O1.out.win.lt; omega
  generalize w1.heap.size = bb at *
  have O1' := Lib.hid o1
  have O2 := Lib.hid o2
  have HAB := Lib.hid hab
  clear o1 o2 hbl hab O1
  go_wp2_with fail
  refine (ow_new v0 w2 B W hB1 hB8 hW1 (by omega) O2.out.low).mono ?_
  rintro r w3 ⟨rfl, o3, hbl⟩
  have o1 := O1'.out.below hbl
  have o2 := O2.out.below hbl
  have hac : ba ≠ w2.heap.size := by have := O1'.out.win.lt; omega
  have hbc : bb ≠ w2.heap.size := by have := O2.out.win.lt; omega
  generalize w2.heap.size = bc at *
  have P1 := Lib.hid o1
  have P2 := Lib.hid o2
  have P3 := Lib.hid o3
  have HAC := Lib.hid hac
  have HBC := Lib.hid hbc
  clear o1 o2 o3 hbl hac hbc O1' O2
  go_wp2_with fail
  refine (ow_add v0 ba B W 0 tm k 7 _ w3 q (upd (fun _ _ => 0) q k 7) P1.out (by omega) k5 (by omega) (by omega) (by rw [HQ.out]; simp) (by rfl)).mono ?_
  rintro r w4 ⟨rfl, hf, o1⟩
  have Q1 := Lib.hid o1
  have Q2 := Lib.hid (P2.out.beside hf P1.out.new HAB.out.symm)
  have Q3 := Lib.hid (P3.out.beside hf P1.out.new HAC.out.symm)
  clear hf o1 P1 P2 P3
  go_wp2_with fail
  refine (ow_add v0 bb B W 0 tm k 7 _ w4 q (upd (fun _ _ => 0) q k 7) Q2.out (by omega) k5 (by omega) (by omega) (by rw [HQ.out]; simp) (by rfl)).mono ?_
  rintro r w5 ⟨rfl, hf, o2⟩
  have R1 := Lib.hid (Q1.out.beside hf Q2.out.new HAB.out)
  have R2 := Lib.hid o2
  have R3 := Lib.hid (Q3.out.beside hf Q2.out.new HBC.out.symm)
  clear hf o2 Q1 Q2 Q3
  go_wp2_with fail
  refine (ow_add v0 bc B W 0 tm k 7 _ w5 q (upd (fun _ _ => 0) q k 7) R3.out (by omega) k5 (by omega) (by omega) (by rw [HQ.out]; simp) (by rfl)).mono ?_
  rintro r w6 ⟨rfl, hf, o3⟩
  have S1 := Lib.hid (R1.out.beside hf R3.out.new HAC.out)
  have S2 := Lib.hid (R2.out.beside hf R3.out.new HBC.out)
  have S3 := Lib.hid o3
  clear hf o3 R1 R2 R3
  have hz := heap_alloc_at w6 (tobj [0, 0, 0, 0, 0])
  have hbz := below_alloc w6 (tobj [0, 0, 0, 0, 0])
  have hgz : w6.heap.size < (w6.alloc (tobj [0, 0, 0, 0, 0])).heap.size := heap_lt hz
  obtain ⟨w7, hw7⟩ : ∃ w7, w6.alloc (tobj [0, 0, 0, 0, 0]) = w7 := ⟨_, rfl⟩
  rw [hw7] at hz hbz
  have T0 : Hid (Three v0 w7 w6.heap.size ba bb bc B W q q q (upd (fun _ _ => 0) q k 7)) := Lib.hid ⟨S1.out.below hbz, S2.out.below hbz, S3.out.below hbz, HAB.out, HAC.out, HBC.out, hz⟩
  have HW7 := Lib.hid hw7
  obtain ⟨c, hc⟩ : ∃ c : Nat → Int, ∀ i, satS (tot (upd (fun _ _ => 0) q k 7) q i B) = c i := ⟨_, fun _ => rfl⟩
  obtain ⟨d, hd⟩ : ∃ d : Nat → Int, ∀ i, satS (tot (upd (fun _ _ => 0) q k 7) (q + B - 1) i B) = d i := ⟨_, fun _ => rfl⟩
  have i1 := index5 c k k5 7 (by rw [← hc, sat_one _ _ _ (by omega), if_pos (by omega)])
  have i2 := index5 d k k5 7 (by rw [← hd, sat_one _ _ _ (by omega), if_pos (by omega)])
  have h0 : ∀ i, satS (tot (upd (fun _ _ => 0) q k 7) (q + B) i B) = 0 := fun i => by rw [sat_one _ _ _ (by omega), if_neg (by omega)]
  have HC := Lib.hid hc
  have HD := Lib.hid hd
  have H0 := Lib.hid h0
  have s0 := same5 (a := 0) (b := 0) (c := 0) (d := 0) (e := 0) (by omega) (by omega) (by omega) (by omega) (by omega)
  have hat : IntKind.u64.wrap (tm : Int) = (tm : Int) := by rw [IntKind.wrap_u64]; omega
  have M1 : Hid (max (tm / W) q = q) := Lib.hid (by rw [HQ.out]; simp)
  have M2 : Hid (max (e1 / W) q = q + B - 1) := Lib.hid (by rw [D1.out]; omega)
  have M3 : Hid (max (e / W) q = q + B) := Lib.hid (by rw [D2.out]; omega)
  clear hz hbz hgz hw7 hc hd h0 S1 S2 S3 hm hB hk hW hqi hei
  go_wp2
  have hw7' := HW7.out
  simp only [tobj, List.map_cons, List.map_nil] at hw7'
  rw [hw7']
  clear hw7'
  generalize w6.heap.size = g at *
  go_region_held3 (fun v => v.cell? ⟨g, 0, none⟩ = some (.int .u64 0) ∧ v.cell? ⟨g, 1, none⟩ = some (.int .u64 0) ∧ v.cell? ⟨g, 2, none⟩ = some (.int .u64 0) ∧ v.cell? ⟨g, 3, none⟩ = some (.int .u64 0) ∧ v.cell? ⟨g, 4, none⟩ = some (.int .u64 0))
    (first
      | exact five0 T0.out.og
      | exact five0 t1.og
      | exact five0 t2.og
      | exact five0 t3.og)
    (first
      | (go_at_call 11; refine (ow_counts v0 bc B W q e _ _ (q + B) 0 0 0 0 0 t2.oc (by omega) M3.out (H0.out _) (H0.out _) (H0.out _) (H0.out _) (H0.out _)).mono ?_; rintro r wC ⟨rfl, fC, oC⟩; have t3 := t2.onC fC oC)
      | (go_at_call 11; refine (ow_countf v0 bb B W q e1 _ _ (q + B - 1) d t1.ob (by omega) M2.out (fun i _ => HD.out i)).mono ?_; rintro r wB ⟨rfl, fB, oB⟩; have t2 := t1.onB fB oB)
      | (go_at_call 11; refine (ow_countf v0 ba B W q tm _ _ q c (T0.out.ali (drew_ali _)).oa (by omega) M1.out (fun i _ => HC.out i)).mono ?_; rintro r wA ⟨rfl, fA, oA⟩; have t1 := (T0.out.ali (drew_ali _)).onA fA oA))
  all_goals
    have T3 := Lib.hid t3
    clear t1 t2 t3 fA oA fB oB fC oC
    go_wp2
    go_ret
    exact ⟨rfl, HB0.out.trans (T3.out.oa.low.mono HB0.out.size)⟩

set_option maxRecDepth 100000 in
theorem lifted (os : Os) (started : os.Started) (H : Type) (enc : TypeId × Value → H) :
    ReturnsInHanded {} Try.checked os 3 .any (Rows.windowLastsSpec.pre6 enc Try.prog Try.f3 Rows.windowLastsRow.domain false) (Rows.windowLastsSpec.post enc Try.prog Try.f3 false true false false) := by
  refine returnsInHanded_of_change_sized (C := Try.checked) own started (by kernel_rfl) Try.func3
    (ChangeSpec.witness6 (enc := enc) (C := Try.checked) false ⟨#[], #[.agg #[.int .u8 0, .int .u8 0], .int .u16 0, .int .u32 0], []⟩ 8 (by kernel_rfl) (by kernel_rfl) (by kernel_rfl) (by kernel_rfl)) ?_
  intro W base args ds gs before hval0 hW hcnd hsz0 _
  have hval : ∀ (j : Nat) t v, Try.f3.params[j]? = some t → args[j]? = some v → Value.okWide Try.prog W .any base t v := hval0
  have hsz : (DataW.weightsEach Try.prog (Try.f3.params.toList ++ Rows.windowLastsSpec.plain.varTypes Try.prog) (ds ++ gs)).all (· ≤ reachBytes) = true := hsz0
  have hW' := hW
  obtain ⟨p, q, hA0, hV, rfl, hfz, hnd⟩ := hW
  have hA : DataW.TrodAll enc Try.prog W 0 (fun _ => true) true Try.f3.params.toList args.toList ds p := hA0
  rw [Try.params3] at hA hval hsz
  have hAk := hA
  obtain ⟨v0, vs0, d0, ds0, p0, q0, hargs, rfl, rfl, h0, r0⟩ := trodAll_cons hA
  obtain ⟨v1, vs1, d1, ds1, p1, q1, rfl, rfl, rfl, h1, r1⟩ := trodAll_cons r0
  obtain ⟨v2, vs2, d2, ds2, p2, q2, rfl, rfl, rfl, h2, r2⟩ := trodAll_cons r1
  obtain ⟨rfl, rfl, rfl⟩ := trodAll_nil r2
  obtain rfl : args = #[v0, v1, v2] := by cases args; simp_all
  obtain ⟨rfl, rfl⟩ := trodVars_none hV
  obtain ⟨c0, rfl, w0⟩ := open_flat (ks := [.int .u8, .int .u8]) 8 (by kernel_rfl) (by kernel_rfl) (hval 0 22 v0 rfl rfl) h0
  obtain ⟨a1, rfl, rfl, rfl, w1⟩ := open_int Try.underlying23 (hval 1 23 v1 rfl rfl) h1
  obtain ⟨a2, rfl, rfl, rfl, w2⟩ := open_int Try.underlying24 (hval 2 24 v2 rfl rfl) h2
  clear hA0 hval0 hsz0
  refine (walk W c0 w0 a1 w1 a2 w2).mono fun e W' ⟨he, bel⟩ => ?_
  subst he
  exact ⟨_, rfl, _, _, _, [], _, [], hW', trodAll_mk1 (shut_bool Try.underlying4 _), trodAll_below laidOut bel _ _ _ _ (by kernel_rfl) hAk, rfl, bel.frame _, fun h => by cases h⟩

theorem over : Rows.windowLastsRow.holds Try.pinned (OpenSpec.ofChange Rows.windowLastsSpec) :=
  OpenClaim.holds_of_wide 3 Try.f3 rfl rfl rfl rfl rfl rfl rfl ⟨rfl, rfl, rfl, rfl, rfl⟩ rfl rfl rfl rfl rfl (by kernel_rfl) Try.func3 (by kernel_rfl)
    (of_decide_eq_true (by kernel_rfl)) (by unfold Func.isWrapper; first | (rw [if_pos (by decide +kernel)]; kernel_rfl) | (rw [if_neg (by decide +kernel)]; exact ⟨rfl, rfl⟩))
    (fun os started H enc _ => lifted os started H enc)

theorem proved : Rows.WindowLastsSaid := over
#print axioms proved
end Go.Proofs.Ytmnfncgalnhplaa.windowLasts
