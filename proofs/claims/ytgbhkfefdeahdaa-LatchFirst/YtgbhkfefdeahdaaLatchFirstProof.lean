/- What is proved: LatchFirst of porpoiselaw11 answers true for every input, and leaves its arguments as they were; conditions: those of the given row alone. -/
import Derived.Test.YtgbhkfefdeahdaaKit
import Derived.Test.YtgbhkfefdeahdaaLaw11
namespace Go.Proofs.Ytgbhkfefdeahdaa.latchFirst
open Go.ChangeShapes Go.WideShapes Go.ChangeAt Go.RowKit Go.Deep
open Go.ChangeMaps (open_string shut_string)
set_option linter.unusedVariables false

theorem own : ownKnob Try.prog.godebug = none := by kernel_rfl
theorem laidOut : laidOutB Try.prog = true := by kernel_rfl

theorem wpList_load_outG {ops : Array Oper} {rest : List Oper} {o : Oper} {a : Act} {w : World} {Q : Exit → Act → World → Prop} (hw : Region.wanted o (yielded ops a.tmps) = true) (x : Operand) (ho : o.op = .load 29 x) (g p : Nat) (hx : a.eval x = .pointer (some ⟨g, p, none⟩)) (y : Ot) (hr : w.rangeAt g p y.vals)
    (h : wpList Try.prog ops Q rest (a.put o.dst (.agg (aggV y.vals))) w) : wpList Try.prog ops Q (o :: rest) a w := by
  obtain ⟨fs, hu⟩ := undO
  exact BigFrame.wpList_want hw fun K hK => wp_load_mid 29 x ho g p hx y.vals _ hr hu rfl (sizeO y) (hK _ _ h)
/-- The first one of a command that may be. -/
def firstM (V : List Ot) (z : Int) : Option Ot := V.find? (fun y => y.id == z && y.may)
theorem find_emit {E : List Ot} {z : Int} {q : Option Ot} (h : E.find? (fun y => y.id == z) = q) (x : Ot) : (emit E x).find? (fun y => y.id == z) = q.or (if (x.id == z && x.may) = true then some x else none) := by
  unfold emit adds
  have hh : hasL E z = q.isSome := by
    rw [← h]
    unfold hasL
    rw [Bool.eq_iff_iff]
    simp [List.find?_isSome]
  by_cases e : x.id = z
  · subst e
    cases q with
    | some y => simp [hh, h]
    | none => cases hm : x.may <;> simp [hh, h, List.find?_append]
  · split
    · rw [List.find?_append, h]
      simp [e]
    · rw [h]
      simp [e]
theorem find_emits (z : Int) : ∀ (V E : List Ot) (q : Option Ot), E.find? (fun y => y.id == z) = q → (emits E V).find? (fun y => y.id == z) = q.or (firstM V z)
  | [], E, q, h => by simp [emits, h, firstM]
  | x :: V, E, q, h => by
    have h1 := find_emit h x
    have h2 := find_emits z V _ _ h1
    rw [show emits E (x :: V) = emits (emit E x) V from rfl, h2, Option.or_assoc]
    congr 1
    unfold firstM
    rw [List.find?_cons]
    cases hp : (x.id == z && x.may) <;> simp
theorem of_emits (V : List Ot) (z : Int) : hasL (emits [] V) z = (firstM V z).isSome ∧ ofL (emits [] V) z = (firstM V z).getD Ot.zero := by
  have h := find_emits z V [] none rfl
  rw [Option.none_or] at h
  constructor
  · rw [← h]
    unfold hasL
    rw [Bool.eq_iff_iff]
    simp [List.find?_isSome]
  · unfold ofL
    rw [h]
theorem firstM_snoc (V : List Ot) (x : Ot) (z : Int) : firstM (V ++ [x]) z = (firstM V z).or (if (x.id == z && x.may) = true then some x else none) := by
  unfold firstM
  rw [List.find?_append]
  congr 1
  cases hp : (x.id == z && x.may) <;> simp [hp]
theorem firstM_fits {V : List Ot} (h : ∀ x ∈ V, x.Fits) (z : Int) : ((firstM V z).getD Ot.zero).Fits := by
  cases hf : firstM V z with
  | none => exact Ot.zero_fits
  | some y => exact h y (List.mem_of_find?_eq_some hf)

set_option maxRecDepth 100000 in
set_option maxHeartbeats 2000000 in
theorem walk (w : World) (a0 : Option Addr) (l0 k0 : Nat) (L0 : List (List Value)) (w0 : SliceIn w [.int .i64, .int .i64, .int .i64, .int .i64, .int .u64] 40 a0 l0 k0 L0) (a1 : Int) (w1 : (Lit.int .i64 a1).wf = true) :
    Calls Try.prog 6 #[.slice a0 l0 k0, .int .i64 a1] w fun e w' => e = .returned (.bool true) ∧ Below w.heap.size w w' := by
  obtain ⟨V, hrow, hfit, hlk, hkm⟩ := outs_in w0
  have hz : wf64 a1 := bounds_i64 w1
  obtain ⟨n, hn1, hn2, hn3, HA⟩ := cap_at l0 V hrow.1
  have hml := hrow.2.1
  unfold maxLen at hml
  obtain ⟨fs, hu⟩ := undO
  have HU := Lib.hid hu
  have HR := Lib.hid hrow
  have HF := Lib.hid hfit
  have HZ := Lib.hid hz
  clear w0 w1 hrow hfit hlk hkm hu hz
  go_enter Try.func6, Try.ntmps6
  go_wp2_with (first
    | (go_at_call 9; refine (awake_any w).mono ?_; rintro r wa ⟨rfl, ba⟩; have LA := Lib.hid ba; clear ba)
    | (go_at_call 20; refine (ran_any a0 l0 k0 V wa (HR.out.later LA.out) HF.out).mono ?_; rintro r w1 ⟨b, rfl, m, v, h1⟩; have H1 := Lib.hid h1; clear h1; obtain ⟨g, hg⟩ : ∃ g, w1.heap.size = g := ⟨_, rfl⟩)
    | (refine wpList_build_agg rfl 29 #[] rfl Ot.zero.vals (buildO _) ?_)
    | (refine wpList_alloc_agg rfl 29 rfl g hg Ot.zero.vals (allocO _) ?_; intro w2 h2 l2 t2; have K2 := Lib.hid h2; have L2 : Hid (Below w1.heap.size w1 w2) := Lib.hid (by rw [hg]; exact l2); clear h2 l2 t2)
    | (refine wpList_store_agg rfl 29 _ _ rfl g Ot.zero.vals Ot.zero.vals rfl rfl ?hz rfl (sizeO _) (Ot.ones_vals _) ?_; (case hz => exact K2.out); intro w3 h3 f3 t3;
       have b3 : Below w1.heap.size w1 w3 := L2.out.trans (f3.below L2.out.size (fun j hj e => by omega));
       have H3 := Lib.hid (H1.out.below b3); have K3 := Lib.hid h3; clear h3 f3 t3 b3))
  have GB : Hid (wa.heap.size ≤ g ∧ ∀ j, LatF b m v j → j ≠ g) := Lib.hid ⟨by have := H1.out.low.size; omega, fun j hj e => by have := (H1.out.lat.low j hj).2; omega⟩
  generalize hL : emits [] (V.take 100) = L at *
  have HLL := Lib.hid hL
  clear hL hg
  go_loopg [8, 9] n (fun q v8 v9 wr => ∃ (i : Nat) (o : Option Ot), i + q = n ∧ v9 = .int .i64 i ∧ v8 = .bool o.isSome ∧ firstM (V.take i) a1 = o ∧ OwL wa wr b m v L ∧ wr.heap[g]? = some (vobj 29 (o.getD Ot.zero).vals))
  case atStart => exact ⟨0, none, by omega, rfl, rfl, rfl, H3.out, K3.out⟩
  case round =>
    obtain ⟨i, o, hq, rfl, rfl, ho, hol, hk⟩ := hrel
    have G := Lib.hid hq
    have HO := Lib.hid ho
    have OL := Lib.hid hol
    have K := Lib.hid hk
    clear hq ho hol hk
    by_cases hin : i < n
    · have hi1 : (i : Int) < l0 := by omega
      have hi2 : (i : Int) < 100 := by omega
      obtain ⟨rb, off, x, rfl, hx, hrg⟩ := (HR.out.later (LA.out.trans (OL.out.low.mono LA.out.size))).out (i := i) (by omega)
      have q0 := range_cell hrg
      have RG := Lib.hid hrg
      have HX := Lib.hid hx
      have HM := Lib.hid (may_any x)
      clear hrg hx
      have hnext := firstM_snoc (V.take i) x a1
      rw [← take_next' HX.out, HO.out] at hnext
      cases o with
      | some y =>
        have HN := Lib.hid hnext
        clear hnext
        go_wp2
        go_roundg (n - (i + 1))
        case measure => have := G.out; omega
        case rel => exact ⟨i + 1, some y, by omega, by simp, rfl, HN.out, OL.out, K.out⟩
      | none =>
        rw [Option.none_or] at hnext
        by_cases hid : x.id = a1
        · cases hm : x.may
          · rw [hm] at HM hnext
            rw [Bool.and_false, if_neg (by simp)] at hnext
            have HN := Lib.hid hnext
            clear hnext hm
            go_wp2_with (first
              | (refine wpList_load_outG rfl _ rfl rb (off + i * 5) rfl x RG.out ?_)
              | (go_at_call 15; refine (HM.out wr).mono ?_; rintro r w5 ⟨rfl, b5⟩; have K5 := Lib.hid (kb_below K.out b5); have O5 := Lib.hid (OL.out.below b5); clear b5))
            go_roundg (n - (i + 1))
            case measure => have := G.out; omega
            case rel => exact ⟨i + 1, none, by omega, by simp, rfl, HN.out, O5.out, K5.out⟩
          · rw [hm] at HM hnext
            rw [hid, if_pos (by simp)] at hnext
            have HN := Lib.hid hnext
            clear hnext hm
            go_wp2_with (first
              | (refine wpList_load_outG rfl _ rfl rb (off + i * 5) rfl x RG.out ?_)
              | (go_at_call 15; refine (HM.out wr).mono ?_; rintro r w5 ⟨rfl, b5⟩; have K5 := Lib.hid (kb_below K.out b5); have O5 := Lib.hid (OL.out.below b5); have R5 := Lib.hid (range_later RG.out b5); clear b5 q0)
              | (refine wpList_load_out rfl _ rfl rb (off + i * 5) rfl x R5.out ?_)
              | (refine wpList_store_agg rfl 29 _ _ rfl g Ot.zero.vals x.vals rfl rfl ?hz rfl (sizeO _) (Ot.ones_vals _) ?_; (case hz => exact K5.out); intro w6 h6 f6 t6;
                 have O6 : Hid (OwL wa w6 b m v L) := Lib.hid ⟨O5.out.lat.frm f6 (fun j hj e => GB.out.2 j hj e), O5.out.low.trans (f6.below O5.out.low.size (fun j hj e => by have := GB.out.1; omega))⟩;
                 have K6 := Lib.hid h6; clear h6 f6 t6))
            go_roundg (n - (i + 1))
            case measure => have := G.out; omega
            case rel => exact ⟨i + 1, some x, by omega, by simp, rfl, HN.out, O6.out, K6.out⟩
        · have hid' : (x.id == a1) = false := by simp [hid]
          rw [hid', Bool.false_and, if_neg (by simp)] at hnext
          have HN := Lib.hid hnext
          clear hnext hid
          go_wp2
          go_roundg (n - (i + 1))
          case measure => have := G.out; omega
          case rel => exact ⟨i + 1, none, by omega, by simp, rfl, HN.out, OL.out, K.out⟩
    · have hi : i = n := by have := G.out; omega
      subst hi
      have hof := of_emits (V.take i) a1
      have eL : emits [] (V.take i) = L := by rw [HA.out]; exact HLL.out
      rw [eL, HO.out] at hof
      have HOF := Lib.hid hof
      have hfo := firstM_fits (V := V.take i) (fun x hx => HF.out x (List.mem_of_mem_take hx)) a1
      rw [HO.out] at hfo
      have hsm := sameO _ _ hfo hfo
      rw [decide_eq_true rfl] at hsm
      obtain ⟨y, hy⟩ : ∃ y, o.getD Ot.zero = y := ⟨_, rfl⟩
      obtain ⟨t, ht⟩ : ∃ t, o.isSome = t := ⟨_, rfl⟩
      rw [hy] at hsm K HOF
      rw [ht] at HOF ⊢
      have HOC : Hid (∀ w', OwL wa w' b m v L → Calls Try.prog 13 #[.pointer (some ⟨b, 0, none⟩), .int .i64 a1] w' fun r w'' => r = .returned (.tuple #[.agg (aggV y.vals), .bool t]) ∧ Below w'.heap.size w' w'') := Lib.hid (fun w' h => by
        have := of_lat wa.heap.size b m v L a1 w' h.lat HZ.out
        rwa [HOF.out.1, HOF.out.2] at this)
      have hex : ((i : Int) < l0 ∧ ¬ (i : Int) < 100) ∨ ¬ (i : Int) < l0 := by omega
      clear hof hfo hy ht HOF eL
      rcases hex with ⟨hi1, hi2⟩ | hi1
      all_goals (
        go_wp2_with (first
          | (go_at_call 13; refine (HOC.out wr OL.out).mono ?_; rintro r w5 ⟨rfl, b5⟩; have K5 := Lib.hid (kb_below K.out b5); have O5 := Lib.hid (OL.out.below b5); clear b5; obtain ⟨g5, hg5⟩ : ∃ g5, w5.heap.size = g5 := ⟨_, rfl⟩)
          | (refine wpList_alloc_agg rfl 29 rfl g5 hg5 Ot.zero.vals (allocO _) ?_; intro w6 h6 l6 t6; have K6 := Lib.hid h6; have L6 : Hid (Below w5.heap.size w5 w6) := Lib.hid (by rw [hg5]; exact l6); clear h6 l6 t6)
          | (refine wpList_store_agg rfl 29 _ _ rfl g5 Ot.zero.vals y.vals rfl rfl ?hz rfl (sizeO _) (Ot.ones_vals _) ?_; (case hz => exact K6.out); intro w7 h7 f7 t7;
             have b7 : Below w5.heap.size w5 w7 := L6.out.trans (f7.below L6.out.size (fun j hj e => by omega));
             have O7 := Lib.hid (O5.out.below b7); have K7 := Lib.hid (kb_below K5.out b7); have H7 := Lib.hid h7; clear h7 f7 t7 b7)
          | (refine wpList_load_aggG rfl 29 _ rfl g5 rfl y.vals H7.out _ HU.out rfl (sizeO _) ?_)
          | (refine wpList_load_aggG rfl 29 _ rfl g rfl y.vals K7.out _ HU.out rfl (sizeO _) ?_))
        go_ret
        exact ⟨rfl, LA.out.trans (O7.out.low.mono LA.out.size)⟩)

set_option maxRecDepth 100000 in
theorem lifted (os : Os) (started : os.Started) (H : Type) (enc : TypeId × Value → H) :
    ReturnsInHanded {} Try.checked os 6 .any (Rows.latchFirstSpec.pre6 enc Try.prog Try.f6 Rows.latchFirstRow.domain false) (Rows.latchFirstSpec.post enc Try.prog Try.f6 false true false false) := by
  refine returnsInHanded_of_change_sized (C := Try.checked) own started (by kernel_rfl) Try.func6
    (ChangeSpec.witness6 (enc := enc) (C := Try.checked) false ⟨#[], #[.slice none 0 0, .int .i64 0], []⟩ 8 (by kernel_rfl) (by kernel_rfl) (by kernel_rfl) (by kernel_rfl)) ?_
  intro W base args ds gs before hval0 hW hcnd hsz0 _
  have hval : ∀ (j : Nat) t v, Try.f6.params[j]? = some t → args[j]? = some v → Value.okWide Try.prog W .any base t v := hval0
  have hsz : (DataW.weightsEach Try.prog (Try.f6.params.toList ++ Rows.latchFirstSpec.plain.varTypes Try.prog) (ds ++ gs)).all (· ≤ reachBytes) = true := hsz0
  have hW' := hW
  obtain ⟨p, q, hA0, hV, rfl, hfz, hnd⟩ := hW
  have hA : DataW.TrodAll enc Try.prog W 0 (fun _ => true) true Try.f6.params.toList args.toList ds p := hA0
  rw [Try.params6] at hA hval hsz
  have hAk := hA
  obtain ⟨v0, vs0, d0, ds0, p0, q0, hargs, rfl, rfl, h0, r0⟩ := trodAll_cons hA
  obtain ⟨v1, vs1, d1, ds1, p1, q1, rfl, rfl, rfl, h1, r1⟩ := trodAll_cons r0
  obtain ⟨rfl, rfl, rfl⟩ := trodAll_nil r1
  obtain rfl : args = #[v0, v1] := by cases args; simp_all
  obtain ⟨rfl, rfl⟩ := trodVars_none hV
  obtain ⟨a0, l0, k0, L0, rfl, w0⟩ := open_slice_flat (ks := [.int .i64, .int .i64, .int .i64, .int .i64, .int .u64]) (bytes := 40) 8 Try.underlying22 (by kernel_rfl) (by kernel_rfl) (by decide) (by kernel_rfl) (hval 0 22 v0 rfl rfl) h0 (fun elems rest hd => by subst hd; exact sized_slice hsz (j := 0) (t := 22) (e := 29) rfl rfl Try.underlying22)
  obtain ⟨a1, rfl, rfl, rfl, w1⟩ := open_int Try.underlying3 (hval 1 3 v1 rfl rfl) h1
  clear hA0 hval0 hsz0
  refine (walk W a0 l0 k0 L0 w0 a1 w1).mono fun e W' ⟨he, bel⟩ => ?_
  subst he
  exact ⟨_, rfl, _, _, _, [], _, [], hW', trodAll_mk1 (shut_bool Try.underlying4 _), trodAll_below laidOut bel _ _ _ _ (by kernel_rfl) hAk, rfl, bel.frame _, fun h => by cases h⟩

theorem over : Rows.latchFirstRow.holds Try.pinned (OpenSpec.ofChange Rows.latchFirstSpec) :=
  OpenClaim.holds_of_wide 6 Try.f6 rfl rfl rfl rfl rfl rfl rfl ⟨rfl, rfl, rfl, rfl, rfl⟩ rfl rfl rfl rfl rfl (by kernel_rfl) Try.func6 (by kernel_rfl)
    (of_decide_eq_true (by kernel_rfl)) (by unfold Func.isWrapper; first | (rw [if_pos (by decide +kernel)]; kernel_rfl) | (rw [if_neg (by decide +kernel)]; exact ⟨rfl, rfl⟩))
    (fun os started H enc _ => lifted os started H enc)

theorem proved : Rows.LatchFirstSaid := over
#print axioms proved
end Go.Proofs.Ytgbhkfefdeahdaa.latchFirst
