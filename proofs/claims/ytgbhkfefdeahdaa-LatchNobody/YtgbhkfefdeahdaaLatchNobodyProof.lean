/- What is proved: LatchNobody of porpoiselaw11 answers true for every input, and leaves its arguments as they were; conditions: those of the given row alone. -/
import Derived.Test.YtgbhkfefdeahdaaKit
import Derived.Test.YtgbhkfefdeahdaaLaw11
import Derived.Test.YtgbhkfefdeahdaaRef11b
namespace Go.Proofs.Ytgbhkfefdeahdaa.latchNobody
open Go.ChangeShapes Go.WideShapes Go.ChangeAt Go.RowKit Go.Deep
open Go.ChangeMaps (open_string shut_string)
set_option linter.unusedVariables false

theorem own : ownKnob Try.prog.godebug = none := by kernel_rfl
theorem laidOut : laidOutB Try.prog = true := by kernel_rfl

/-- A row whose ids can be changed: its block, each of whose rows begins with a number. -/
def Heads (w : World) (v : Value) (n : Nat) : Prop := ∀ g, v.ownBlock = some g → ∃ cs, w.heap[g]? = some (.cells cs 29 (0, 0)) ∧ ∀ j, j < n → ∃ z, cs[j * 5]? = some (.int .i64 z)
theorem heads_of {w : World} {base n : Nat} {v : Value} {V : List Ot} (h : OutR w base v V) (hn : V.length = n) : Heads w v n := by
  intro g hg
  rcases h.1.2 with ⟨rfl, _⟩ | ⟨g', cap, cur, hv, _, hh, hnc, _, hcs, ht⟩
  · cases hg
  · rw [hv] at hg
    cases hg
    refine ⟨cur, hh, fun j hj => ?_⟩
    have hV : V[j]? = some (V[j]'(by omega)) := List.getElem?_eq_getElem _
    have h0 := orec.flat_at (k := 0) hV (show (orec.cells (V[j]'(by omega)))[0]? = some (.int .i64 (V[j]'(by omega)).id) from rfl)
    have h5 : orec.size = 5 := rfl
    rw [← ht, h5, Nat.add_zero, List.getElem?_take_of_lt (by omega)] at h0
    exact ⟨_, by simpa using h0⟩
theorem Heads.set {w : World} {v : Value} {n g i : Nat} (h : Heads w v n) (hg : v.ownBlock = some g) (z : Int) : Heads (w.setCell ⟨g, i * 5, none⟩ (.int .i64 z)) v n := by
  intro g' hg'
  rw [hg] at hg'
  cases hg'
  obtain ⟨cs, hh, hc⟩ := h g hg
  refine ⟨_, heap_set_same hh _, fun j hj => ?_⟩
  obtain ⟨y, hy⟩ := hc j hj
  rw [Array.getElem?_setIfInBounds]
  split
  · rename_i e
    rw [if_pos (by have := (Array.getElem?_eq_some_iff.1 hy).1; omega)]
    exact ⟨z, rfl⟩
  · exact ⟨y, hy⟩

set_option maxRecDepth 100000 in
set_option maxHeartbeats 2000000 in
theorem walk (w : World) (a0 : Option Addr) (l0 k0 : Nat) (L0 : List (List Value)) (w0 : SliceIn w [.int .i64, .int .i64, .int .i64, .int .i64, .int .u64] 40 a0 l0 k0 L0) (c1 : Array Value) (w1 : Flat [.int .i64, .int .i64, .int .i64, .int .i64, .int .u64] c1.toList) :
    Calls Try.prog 8 #[.slice a0 l0 k0, .agg c1] w fun e w' => e = .returned (.bool true) ∧ Below w.heap.size w w' := by
  obtain ⟨V, hrow, hfit, _, _⟩ := outs_in w0
  obtain ⟨x, rfl, hx⟩ := out_agg w1
  obtain ⟨g, hg⟩ : ∃ g, w.heap.size = g := ⟨_, rfl⟩
  obtain ⟨fs, hu⟩ := undO
  have HU := Lib.hid hu
  have HR := Lib.hid hrow
  have HF := Lib.hid hfit
  clear w0 w1 hrow hfit hx hu
  obtain ⟨L, hL⟩ : ∃ L, emits [] (V.take 100) = L := ⟨_, rfl⟩
  have LL : Hid (L.length ≤ 100) := Lib.hid (by rw [← hL]; exact emits_take_len V 100)
  have HLL := Lib.hid hL
  clear hL
  go_enter Try.func8, Try.ntmps8
  go_wp2_with (first
    | (refine wpList_box_agg rfl 29 _ rfl g hg x.vals rfl ?_; intro w1 h1 l1 t1; have H1 := Lib.hid h1; have L1 : Hid (Below w.heap.size w w1) := Lib.hid (by rw [hg]; exact l1); clear h1 l1 t1)
    | (go_at_call 9; refine (awake_any w1).mono ?_; rintro r wa ⟨rfl, ba⟩; have LA := Lib.hid (L1.out.trans (ba.mono L1.out.size)); have HA := Lib.hid (kb_below H1.out ba); obtain ⟨d0, _, _, _, _⟩ := cellsO HA.out; clear ba)
    | (go_at_call 13; refine (of_nil x.id wa).mono ?_; rintro r w2 ⟨rfl, b2⟩; have L2 := Lib.hid (LA.out.trans (b2.mono LA.out.size)); have H2 := Lib.hid (kb_below HA.out b2); clear b2 d0; obtain ⟨g2, hg2⟩ : ∃ g2, w2.heap.size = g2 := ⟨_, rfl⟩)
    | (refine wpList_alloc_agg rfl 29 rfl g2 hg2 Ot.zero.vals (allocO _) ?_; intro w3 h3 l3 t3; have K3 := Lib.hid h3; have L3 : Hid (Below w2.heap.size w2 w3) := Lib.hid (by rw [hg2]; exact l3); clear h3 l3 t3)
    | (refine wpList_store_agg rfl 29 _ _ rfl g2 Ot.zero.vals Ot.zero.vals rfl rfl ?hz rfl (sizeO _) (Ot.ones_vals _) ?_; (case hz => exact K3.out); intro w4 h4 f4 t4;
       have b4 : Below w2.heap.size w2 w4 := L3.out.trans (f4.below L3.out.size (fun j hj e => by omega));
       have L4 := Lib.hid (L2.out.trans (b4.mono L2.out.size)); have H4 := Lib.hid (kb_below H2.out b4); clear h4 f4 t4 b4)
    | (go_at_call 20; refine (ran_any a0 l0 k0 V w4 (HR.out.later L4.out) HF.out).mono ?_; rw [HLL.out]; rintro r w5 ⟨b, rfl, m, v, h5⟩; have O5 := Lib.hid h5; have H5 := Lib.hid (kb_below H4.out h5.low); clear h5)
    | (go_at_call 18; refine (all_lat w4.heap.size b m v L w6 O6.out.lat (by have := LL.out; omega)).mono ?_; rintro r w7 ⟨vb, rfl, ob, b7⟩; have O7 := Lib.hid (O6.out.below b7); have H7 := Lib.hid (kb_below H6.out b7); have VA7 := Lib.hid (VA.out.below b7); have VB := Lib.hid ob; clear ob b7)
    | (go_at_call 18; refine (all_lat w4.heap.size b m v L w5 O5.out.lat (by have := LL.out; omega)).mono ?_; rintro r w6 ⟨va, rfl, oa, b6⟩; have O6 := Lib.hid (O5.out.below b6); have H6 := Lib.hid (kb_below H5.out b6); have VA := Lib.hid oa; clear oa b6))
  obtain ⟨A, n, c, hva, _, nl, _, hcm⟩ := VA7.out.row'
  subst hva
  obtain ⟨A', n', c', hvb, _, _, _, _⟩ := VB.out.row'
  subst hvb
  have hml : n ≤ 100 := by have := nl.out; have := LL.out; omega
  go_loopg [12] n (fun q v12 wr => ∃ i : Nat, i + q = n ∧ v12 = .int .i64 i ∧ Frm (fun j => (Value.slice A n c).ownBlock = some j) w7 wr ∧ Heads wr (.slice A n c) n)
  case atStart => exact ⟨0, by omega, rfl, Frm.refl _ _, heads_of VA7.out nl.out⟩
  case round =>
    obtain ⟨i, hq, rfl, hfr, hhd⟩ := hrel
    have G := Lib.hid hq
    have FR := Lib.hid hfr
    have HD := Lib.hid hhd
    clear hq hfr hhd
    by_cases hin : i < n
    · have hi1 : (i : Int) < n := by omega
      have hA : ∃ ga, A = some ⟨ga, 0, none⟩ := by
        rcases VA7.out.1.2 with ⟨e, h0⟩ | ⟨ga, cap, cur, e, _⟩
        · injection e with e1 e2 e3
          omega
        · injection e with e1 e2 e3
          exact ⟨ga, e1⟩
      obtain ⟨ga, rfl⟩ := hA
      obtain ⟨cs, hh, hc⟩ := HD.out ga rfl
      obtain ⟨z, hz⟩ := hc i hin
      have q0 : wr.cell? ⟨ga, i * 5, none⟩ = some (.int .i64 z) := by rw [cell_of hh]; exact hz
      have q1 := frozen_of hh (i * 5)
      clear hh hc hz
      go_wp2
      go_roundg (n - (i + 1))
      case measure => have := G.out; omega
      case rel => exact ⟨i + 1, by omega, by simp, FR.out.set (F := fun j => (Value.slice (some ⟨ga, 0, none⟩) n c).ownBlock = some j) (p := ⟨ga, i * 5, none⟩) rfl _, HD.out.set rfl _⟩
    · have hi1 : ¬ (i : Int) < n := by omega
      have low : ∀ j, (Value.slice A n c).ownBlock = some j → w5.heap.size ≤ j ∧ j < w6.heap.size := fun j hj => VA.out.1.lt j hj
      have or5 : OwL w4 wr b m v L := ⟨O7.out.lat.frm FR.out (fun j hj e => by have h1 := (low j e).1; have h2 := (O5.out.lat.low j hj).2; omega), O7.out.low.trans (FR.out.below O7.out.low.size (fun j hj e => by have h1 := (low j e).1; have h2 := O5.out.low.size; omega))⟩
      have hr5 : wr.heap[g]? = some (vobj 29 x.vals) := (FR.out.block g (heap_lt H7.out) (fun e => by have h1 := (low g e).1; have h2 := heap_lt H5.out; omega)).trans H7.out
      have vr5 : OutR wr w6.heap.size (.slice A' n' c') L := VB.out.apart FR.out (fun j hj e => by have h1 := (low j e).2; have h2 := VB.out.low j hj; omega)
      have OR := Lib.hid or5
      have HRR := Lib.hid hr5
      have VR := Lib.hid vr5
      have FL : Hid (∀ y ∈ L, y.Fits) := Lib.hid or5.lat.fits
      clear low or5 hr5 vr5
      go_wp2_with (first
        | (refine wpList_load_aggG rfl 29 _ rfl g rfl x.vals HRR.out _ HU.out rfl (sizeO _) ?_)
        | (go_at_call 11; refine (emit_nil x wr).mono ?_; rintro r w8 ⟨rfl, b8⟩; have O8 := Lib.hid (OR.out.below b8); have V8 := Lib.hid (VR.out.below b8); clear b8)
        | (go_at_call 18; refine (all_nil w8).mono ?_; rintro r w9 ⟨rfl, rfl⟩)
        | (go_at_call 19; refine (since_nil 0 w8).mono ?_; rintro r w10 ⟨rfl, rfl⟩)
        | (go_at_call 18; refine (all_lat w4.heap.size b m v L w8 O8.out.lat (by have := LL.out; omega)).mono ?_; rintro r w11 ⟨vc, rfl, oc, b11⟩; obtain ⟨A2, n2, c2, hvc, rc, _, _, _⟩ := oc.row'; subst hvc; have O11 := Lib.hid (O8.out.below b11); have V11 := Lib.hid (V8.out.below b11); have RC := Lib.hid rc; clear oc b11 rc)
        | (go_at_call 17; refine (rsame_any A2 A' n2 c2 n' c' L L w11 RC.out V11.out.row.1 FL.out FL.out).mono ?_; rw [decide_eq_true rfl]; rintro r w12 ⟨rfl, b12⟩; have O12 := Lib.hid (O11.out.below b12); clear b12))
      go_ret
      have LF : Below w.heap.size w w12 := L4.out.trans (O12.out.low.mono L4.out.size)
      exact ⟨rfl, by first | exact LF | (rw [← hg]; exact LF)⟩

set_option maxRecDepth 100000 in
theorem lifted (os : Os) (started : os.Started) (H : Type) (enc : TypeId × Value → H) :
    ReturnsInHanded {} Try.checked os 8 .any (Rows.latchNobodySpec.pre6 enc Try.prog Try.f8 Rows.latchNobodyRow.domain false) (Rows.latchNobodySpec.post enc Try.prog Try.f8 false true false false) := by
  refine returnsInHanded_of_change_sized (C := Try.checked) own started (by kernel_rfl) Try.func8
    (ChangeSpec.witness6 (enc := enc) (C := Try.checked) false ⟨#[], #[.slice none 0 0, .agg #[.int .i64 0, .int .i64 0, .int .i64 0, .int .i64 0, .int .u64 0]], []⟩ 8 (by kernel_rfl) (by kernel_rfl) (by kernel_rfl) (by kernel_rfl)) ?_
  intro W base args ds gs before hval0 hW hcnd hsz0 _
  have hval : ∀ (j : Nat) t v, Try.f8.params[j]? = some t → args[j]? = some v → Value.okWide Try.prog W .any base t v := hval0
  have hsz : (DataW.weightsEach Try.prog (Try.f8.params.toList ++ Rows.latchNobodySpec.plain.varTypes Try.prog) (ds ++ gs)).all (· ≤ reachBytes) = true := hsz0
  have hW' := hW
  obtain ⟨p, q, hA0, hV, rfl, hfz, hnd⟩ := hW
  have hA : DataW.TrodAll enc Try.prog W 0 (fun _ => true) true Try.f8.params.toList args.toList ds p := hA0
  rw [Try.params8] at hA hval hsz
  have hAk := hA
  obtain ⟨v0, vs0, d0, ds0, p0, q0, hargs, rfl, rfl, h0, r0⟩ := trodAll_cons hA
  obtain ⟨v1, vs1, d1, ds1, p1, q1, rfl, rfl, rfl, h1, r1⟩ := trodAll_cons r0
  obtain ⟨rfl, rfl, rfl⟩ := trodAll_nil r1
  obtain rfl : args = #[v0, v1] := by cases args; simp_all
  obtain ⟨rfl, rfl⟩ := trodVars_none hV
  obtain ⟨a0, l0, k0, L0, rfl, w0⟩ := open_slice_flat (ks := [.int .i64, .int .i64, .int .i64, .int .i64, .int .u64]) (bytes := 40) 8 Try.underlying22 (by kernel_rfl) (by kernel_rfl) (by decide) (by kernel_rfl) (hval 0 22 v0 rfl rfl) h0 (fun elems rest hd => by subst hd; exact sized_slice hsz (j := 0) (t := 22) (e := 29) rfl rfl Try.underlying22)
  obtain ⟨c1, rfl, w1⟩ := open_flat (ks := [.int .i64, .int .i64, .int .i64, .int .i64, .int .u64]) 8 (by kernel_rfl) (by kernel_rfl) (hval 1 29 v1 rfl rfl) h1
  clear hA0 hval0 hsz0
  refine (walk W a0 l0 k0 L0 w0 c1 w1).mono fun e W' ⟨he, bel⟩ => ?_
  subst he
  exact ⟨_, rfl, _, _, _, [], _, [], hW', trodAll_mk1 (shut_bool Try.underlying4 _), trodAll_below laidOut bel _ _ _ _ (by kernel_rfl) hAk, rfl, bel.frame _, fun h => by cases h⟩

theorem over : Rows.latchNobodyRow.holds Try.pinned (OpenSpec.ofChange Rows.latchNobodySpec) :=
  OpenClaim.holds_of_wide 8 Try.f8 rfl rfl rfl rfl rfl rfl rfl ⟨rfl, rfl, rfl, rfl, rfl⟩ rfl rfl rfl rfl rfl (by kernel_rfl) Try.func8 (by kernel_rfl)
    (of_decide_eq_true (by kernel_rfl)) (by unfold Func.isWrapper; first | (rw [if_pos (by decide +kernel)]; kernel_rfl) | (rw [if_neg (by decide +kernel)]; exact ⟨rfl, rfl⟩))
    (fun os started H enc _ => lifted os started H enc)

theorem proved : Rows.LatchNobodySaid := over
#print axioms proved
end Go.Proofs.Ytgbhkfefdeahdaa.latchNobody
