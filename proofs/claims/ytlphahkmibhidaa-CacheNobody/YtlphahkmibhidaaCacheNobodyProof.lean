/- What is proved: CacheNobody of porpoiselaw12 answers true for every input, and leaves its arguments as they were; conditions: those of the given row alone. -/
import Derived.Test.YtlphahkmibhidaaKit
import Derived.Test.YtlphahkmibhidaaAwk12
namespace Go.Proofs.Ytlphahkmibhidaa.cacheNobody
open Go.ChangeShapes Go.WideShapes Go.ChangeAt Go.RowKit Go.Deep
open Go.ChangeMaps (open_string shut_string)
set_option linter.unusedVariables false

theorem own : ownKnob Try.prog.godebug = none := by kernel_rfl
theorem laidOut : laidOutB Try.prog = true := by kernel_rfl

theorem wf_100 : wf3 ⟨1, 0, 0⟩ := ⟨⟨by decide, by decide⟩, ⟨by decide, by decide⟩, ⟨by decide, by decide⟩⟩

set_option maxRecDepth 100000 in
set_option maxHeartbeats 4000000 in
theorem walk (w : World) (c0 : Array Value) (w0 : Flat [.int .i64, .int .i64, .int .i64] c0.toList) (a1 : Int) (w1 : (Lit.int .i64 a1).wf = true) :
    Calls Try.prog 8 #[.agg c0, .int .i64 a1] w fun e w' => e = .returned (.bool true) ∧ Below w.heap.size w w' := by
  obtain ⟨k, ek, hk⟩ := flat_v3 w0
  obtain rfl : c0 = aggV (v3 k) := by rw [← ek]; rfl
  have HI : Hid (wf64 a1) := Lib.hid (bounds_i64 w1)
  obtain ⟨g, hg⟩ : ∃ g, w.heap.size = g := ⟨_, rfl⟩
  obtain ⟨fsk, huk⟩ := undRK
  have HUK := Lib.hid huk
  have TK1 := Lib.hid HI.out
  have TK2 := Lib.hid HI.out
  have TK3 := Lib.hid HI.out
  clear ek hk w0 w1 huk
  go_enter Try.func8, Try.ntmps8
  go_wp2_with (first
    | (refine wpList_box_agg rfl 33 _ rfl g hg (v3 k) rfl ?_; intro w1 h1 l1 t1; have KB0 := Lib.hid h1; have LOW0 : Hid (Below w.heap.size w w1) := Lib.hid (by rw [hg]; exact l1); clear h1 l1 t1)
    | (go_at_call 9; refine (awake_any w1).mono ?_; rintro r w11 ⟨rfl, hb12⟩; have KB13 : Hid (w11.heap[g]? = some (vobj 33 (v3 k))) := Lib.hid (kb_below KB0.out hb12); have LOW14 : Hid (Below w.heap.size w w11) := Lib.hid (LOW0.out.trans ((hb12).mono LOW0.out.size)); clear hb12 KB0 LOW0 )
    | (refine wpList_load_agg rfl 33 _ rfl g rfl (v3 k) ?hy _ HUK.out rfl (sizeRK _) ?_; (case hy => exact KB13.out))
    | (go_at_call 16; refine (key_any k w11).mono ?_; rintro r w15 ⟨rfl, hb16⟩; have KB17 : Hid (w15.heap[g]? = some (vobj 33 (v3 k))) := Lib.hid (kb_below KB13.out hb16); have LOW18 : Hid (Below w.heap.size w w15) := Lib.hid (LOW14.out.trans ((hb16).mono LOW14.out.size)); clear hb16 KB13 LOW14 )
    | (go_at_call 15; refine (ask_nil k a1 w15).mono ?_; rintro r w19 ⟨rfl, hb20⟩; have KB21 : Hid (w19.heap[g]? = some (vobj 33 (v3 k))) := Lib.hid (kb_below KB17.out hb20); have LOW22 : Hid (Below w.heap.size w w19) := Lib.hid (LOW18.out.trans ((hb20).mono LOW18.out.size)); clear hb20 KB17 LOW18 ; obtain ⟨vg23, hv24⟩ : ∃ g, w19.heap.size = g := ⟨_, rfl⟩)
    | (refine wpList_alloc_agg rfl 44 rfl vg23 hv24 (v3 zero3) (allocT _) ?_; intro w25 ht26 hl27 hs28; have HZ31 : Hid (w.heap.size ≤ vg23) := Lib.hid (by have := LOW22.out.size; omega); have NE32 : Hid (g ≠ vg23) := Lib.hid (by have := heap_lt KB21.out; omega); have KB33 : Hid (w25.heap[g]? = some (vobj 33 (v3 k))) := Lib.hid (kb_below KB21.out (show Below w19.heap.size w19 w25 by rw [hv24]; exact hl27)); have LOW34 : Hid (Below w.heap.size w w25) := Lib.hid (LOW22.out.trans (((show Below w19.heap.size w19 w25 by rw [hv24]; exact hl27)).mono LOW22.out.size)); have NT30 := Lib.hid ht26; clear ht26 hl27 hs28 KB21 LOW22 )
    | (refine wpList_store_agg rfl 44 _ _ rfl vg23 (v3 zero3) (v3 zero3) rfl rfl ?hz rfl (sizeT _) (v3_ones _) ?_; (case hz => exact NT30.out); intro w35 ht36 hf37 hs38; have KB40 : Hid (w35.heap[g]? = some (vobj 33 (v3 k))) := Lib.hid ((hf37.block _ (heap_lt KB33.out) NE32.out).trans KB33.out); have LOW41 : Hid (Below w.heap.size w w35) := Lib.hid (LOW34.out.trans (hf37.below LOW34.out.size (fun j hj e => by have e' : j = vg23 := e; have := HZ31.out; omega))); have NB42 := Lib.hid ht36; clear ht36 hf37 hs38 KB33 LOW34  NT30)
    | (go_at_call 10; refine (oc_new w w35 LOW41.out).mono ?_; rintro r w43 ⟨b46, rfl, ho45, hb44⟩; have OC47 := Lib.hid ho45; have KB48 : Hid (w43.heap[g]? = some (vobj 33 (v3 k))) := Lib.hid (kb_below KB40.out hb44); have LOW49 : Hid (Below w.heap.size w w43) := Lib.hid (LOW41.out.trans ((hb44).mono LOW41.out.size)); have NB50 : Hid (w43.heap[vg23]? = some (vobj 44 (v3 zero3))) := Lib.hid (kb_below NB42.out hb44); clear ho45 hb44 KB40 LOW41 NB42)
    | (go_at_call 14; refine (oc_close w F64 b46 CA.none_ w56 OC60.out k.a (by decide) 0 CA.none_ rfl rfl).mono ?_; rintro r w71 ⟨rfl, ho73, hf72⟩; have OC74 := Lib.hid ho73; have KB75 : Hid (w71.heap[g]? = some (vobj 33 (v3 k))) := Lib.hid (foot_kept hf72 KB68.out (by decide)); have NB76 : Hid (w71.heap[vg23]? = some (vobj 44 (v3 zero3))) := Lib.hid (foot_kept hf72 NB69.out (by decide)); clear ho73 hf72 KB68 NB69 OC60)
    | (go_at_call 12; refine (oc_len w F64 b46 CA.none_ w56 OC60.out 0 rfl).mono ?_; rintro r w70 ⟨rfl, rfl⟩)
    | (go_at_call 17; refine (oc_settle w (w35.heap.size ≤ ·) b46 CA.none_ w51 OC55.out a1 ⟨1, 0, 0⟩ HI.out wf_100 [] CA.none_ rfl rfl).mono ?_; rintro r w56 ⟨A61, n62, c63, rfl, hr59, ho58, hf57⟩; obtain ⟨F64, hF65, ho58⟩ : ∃ F2 : Nat → Prop, (∀ j, F2 j → (show Nat → Prop from (w35.heap.size ≤ ·)) j ∧ (Value.slice A61 n62 c63).ownBlock ≠ some j) ∧ OwC w w56 F2 b46 CA.none_ := ⟨_, fun _ h => h, ho58⟩; have ND66 : Hid (∀ j, F64 j → (Value.slice A61 n62 c63).ownBlock ≠ some j) := Lib.hid (fun j hj => (hF65 j hj).2); have KB68 : Hid (w56.heap[g]? = some (vobj 33 (v3 k))) := Lib.hid (foot_kept hf57 KB53.out (by decide)); have NB69 : Hid (w56.heap[vg23]? = some (vobj 44 (v3 zero3))) := Lib.hid (foot_kept hf57 NB54.out (by decide)); have OC60 := Lib.hid ho58; have RW67 := Lib.hid hr59; clear ho58 hf57 hr59 hF65 KB53 NB54 OC55; obtain ⟨d1, _, _⟩ := cells3 KB68.out; obtain rfl : 0 = n62 := RW67.out.row.2.1)
    | (go_at_call 12; have tk := TK3.out; clear TK3; refine (len_nil w51).mono ?_; rintro r wz ⟨rfl, hz⟩; rw [← hz]; clear hz wz)
    | (go_at_call 14; have tk := TK2.out; clear TK2; refine (close_nil k.a w51).mono ?_; rintro r wz ⟨rfl, hz⟩; rw [← hz]; clear hz wz)
    | (go_at_call 17; have tk := TK1.out; clear TK1; refine (settle_nil a1 zero3 w43).mono ?_; rintro r w51 ⟨rfl, hb52⟩; have OC55 := Lib.hid (OC47.out.below hb52); have KB53 : Hid (w51.heap[g]? = some (vobj 33 (v3 k))) := Lib.hid (kb_below KB48.out hb52); have NB54 : Hid (w51.heap[vg23]? = some (vobj 44 (v3 zero3))) := Lib.hid (kb_below NB50.out hb52); clear hb52 KB48 NB50 OC47; obtain ⟨d0, _, _⟩ := cells3 KB53.out))
  go_ret
  exact ⟨rfl, by have := OC74.out.low; first | exact this | (rw [hg] at this; exact this)⟩

set_option maxRecDepth 100000 in
theorem lifted (os : Os) (started : os.Started) (H : Type) (enc : TypeId × Value → H) :
    ReturnsInHanded {} Try.checked os 8 .any (Rows.cacheNobodySpec.pre6 enc Try.prog Try.f8 Rows.cacheNobodyRow.domain false) (Rows.cacheNobodySpec.post enc Try.prog Try.f8 false true false false) := by
  refine returnsInHanded_of_change_sized (C := Try.checked) own started (by kernel_rfl) Try.func8
    (ChangeSpec.witness6 (enc := enc) (C := Try.checked) false ⟨#[], #[.agg #[.int .i64 0, .int .i64 0, .int .i64 0], .int .i64 0], []⟩ 8 (by kernel_rfl) (by kernel_rfl) (by kernel_rfl) (by kernel_rfl)) ?_
  intro W base args ds gs before hval0 hW hcnd hsz0 _
  have hval : ∀ (j : Nat) t v, Try.f8.params[j]? = some t → args[j]? = some v → Value.okWide Try.prog W .any base t v := hval0
  have hsz : (DataW.weightsEach Try.prog (Try.f8.params.toList ++ Rows.cacheNobodySpec.plain.varTypes Try.prog) (ds ++ gs)).all (· ≤ reachBytes) = true := hsz0
  have hW' := hW
  obtain ⟨p, q, hA0, hV, rfl, hfz, hnd⟩ := hW
  have hA : DataW.TrodAll enc Try.prog W 0 (fun _ => true) true Try.f8.params.toList args.toList ds p := hA0
  rw [Try.params8] at hA hval hsz
  have hAk := hA
  obtain ⟨v0, vs0, d0, ds0, p0, q0, hargs, rfl, rfl, h0, r0⟩ := trodAll_cons hA
  obtain ⟨v1, vs1, d1, ds1, p1, q1, rfl, rfl, rfl, h1, r1⟩ := trodAll_cons r0
  obtain ⟨rfl, rfl, rfl⟩ := trodAll_nil r1
  obtain rfl : args = #[v0, v1] := by cases args; simp_all
  obtain ⟨rfl, rfl⟩ := trodVars_none hV
  obtain ⟨c0, rfl, w0⟩ := open_flat (ks := [.int .i64, .int .i64, .int .i64]) 8 (by kernel_rfl) (by kernel_rfl) (hval 0 33 v0 rfl rfl) h0
  obtain ⟨a1, rfl, rfl, rfl, w1⟩ := open_int Try.underlying3 (hval 1 3 v1 rfl rfl) h1
  clear hA0 hval0 hsz0
  refine (walk W c0 w0 a1 w1).mono fun e W' ⟨he, bel⟩ => ?_
  subst he
  exact ⟨_, rfl, _, _, _, [], _, [], hW', trodAll_mk1 (shut_bool Try.underlying4 _), trodAll_below laidOut bel _ _ _ _ (by kernel_rfl) hAk, rfl, bel.frame _, fun h => by cases h⟩

theorem over : Rows.cacheNobodyRow.holds Try.pinned (OpenSpec.ofChange Rows.cacheNobodySpec) :=
  OpenClaim.holds_of_wide 8 Try.f8 rfl rfl rfl rfl rfl rfl rfl ⟨rfl, rfl, rfl, rfl, rfl⟩ rfl rfl rfl rfl rfl (by kernel_rfl) Try.func8 (by kernel_rfl)
    (of_decide_eq_true (by kernel_rfl)) (by unfold Func.isWrapper; first | (rw [if_pos (by decide +kernel)]; kernel_rfl) | (rw [if_neg (by decide +kernel)]; exact ⟨rfl, rfl⟩))
    (fun os started H enc _ => lifted os started H enc)

theorem proved : Rows.CacheNobodySaid := over
#print axioms proved
end Go.Proofs.Ytlphahkmibhidaa.cacheNobody
