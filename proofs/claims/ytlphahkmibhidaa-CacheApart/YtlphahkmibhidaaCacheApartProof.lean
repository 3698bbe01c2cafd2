/- What is proved: CacheApart of porpoiselaw12 answers true for every input, and leaves its arguments as they were; conditions: those of the given row alone. -/
import Derived.Test.YtlphahkmibhidaaKit
import Derived.Test.YtlphahkmibhidaaTwo12
import Derived.Test.YtlphahkmibhidaaAwk12
namespace Go.Proofs.Ytlphahkmibhidaa.cacheApart
open Go.ChangeShapes Go.WideShapes Go.ChangeAt Go.RowKit Go.Deep
open Go.ChangeMaps (open_string shut_string)
set_option linter.unusedVariables false

theorem own : ownKnob Try.prog.godebug = none := by kernel_rfl
theorem laidOut : laidOutB Try.prog = true := by kernel_rfl



set_option maxRecDepth 100000 in
set_option maxHeartbeats 3000000 in
theorem walk (w : World) (a0 : Option Addr) (l0 k0 : Nat) (L0 : List (List Value)) (w0 : SliceIn w [.int .i64, .int .i64, .int .i64, .int .i64, .int .i64, .int .i64, .int .i64, .int .i64] 64 a0 l0 k0 L0) (c1 : Array Value) (w1 : Flat [.int .i64, .int .i64, .int .i64, .int .i64, .int .i64, .int .i64, .int .i64, .int .i64] c1.toList) (c2 : Array Value) (w2 : Flat [.int .i64, .int .i64, .int .i64] c2.toList) :
    Calls Try.prog 5 #[.slice a0 l0 k0, .agg c1, .agg c2] w fun e w' => e = .returned (.bool true) ∧ Below w.heap.size w w' := by
  obtain ⟨V, hr, hV, hml⟩ := dds_in w0
  unfold maxLen at hml
  obtain ⟨d, ed, hd⟩ := dd_flat w1
  obtain rfl : c1 = aggV d.vals := by rw [← ed]; rfl
  obtain ⟨k, ek, hk⟩ := flat_v3 w2
  obtain rfl : c2 = aggV (v3 k) := by rw [← ek]; rfl
  obtain ⟨g, hg⟩ : ∃ g, w.heap.size = g := ⟨_, rfl⟩
  obtain ⟨S, hS⟩ : ∃ S, CA.run (V.take 100) = S := ⟨_, rfl⟩
  have HSR := Lib.hid hS
  have SZ : Hid (S.size ≤ 1000) := Lib.hid (by have := CA.run_size (V.take 100); rw [hS, List.length_take] at this; omega)
  have SZD : Hid ((S.deed d).size ≤ 1000) := Lib.hid (by have := CA.run_size (V.take 100); rw [hS, List.length_take] at this; have := S.deed_size d; omega)
  obtain ⟨fsd, hud⟩ : ∃ fs, Try.prog.underlying 37 = some (.struct fs) := ⟨_, Try.underlying37⟩
  have HUD := Lib.hid hud
  have sizeD : ∀ x : Dd, (Try.prog.info? 37).map (·.size) = some x.vals.length := fun x => by rw [show x.vals.length = 8 from rfl]; kernel_rfl
  obtain ⟨fsk, huk⟩ := undRK
  have HUK := Lib.hid huk
  obtain ⟨fsc, huc⟩ := undT
  have HUC := Lib.hid huc
  have HR := Lib.hid hr
  have HF := Lib.hid hV
  have FD := Lib.hid hd
  have HK := Lib.hid hk
  have heq : ∀ w, (Op.equalIn 10000 33 (.agg #[.int .i64 d.k.a, .int .i64 d.k.b, .int .i64 d.k.c]) (.agg #[.int .i64 k.a, .int .i64 k.b, .int .i64 k.c])).run Try.prog w = .ok (decide (d.k = k)) w := sameRK d.k k hd.k hk
  clear w0 w1 w2 hr hV hud huk huc hd hk hS ed ek
  by_cases hdk : d.k = k
  · have e1 : decide (d.k = k) = true := by simp [hdk]
    rw [e1] at heq
    clear hdk e1
    go_enter Try.func5, Try.ntmps5
    go_wp2_with (first
    | (refine wpList_box_agg rfl 37 _ rfl g hg d.vals rfl ?_; intro w1 h1 l1 t1)
    | (refine wpList_box_agg rfl 33 _ rfl (g + 1) t1 (v3 k) rfl ?_; intro w2 h2 l2 t2; have D2 : Hid (w2.heap[g]? = some (vobj 37 d.vals)) := Lib.hid ((l2.block g (by omega)).trans h1); have K2 := Lib.hid h2; have L2 : Hid (Below w.heap.size w w2) := Lib.hid (by rw [hg]; exact l1.trans (l2.mono (by omega))); clear h1 h2 l1 l2 t1 t2))
    go_at_call 9; refine (awake_any w2).mono ?_; rintro r wa ⟨rfl, ba⟩; have DB0 : Hid (wa.heap[g]? = some (vobj 37 d.vals)) := Lib.hid (kb_below D2.out ba); have KB0 : Hid (wa.heap[g + 1]? = some (vobj 33 (v3 k))) := Lib.hid (kb_below K2.out ba); have LA : Hid (Below w.heap.size w wa) := Lib.hid (L2.out.trans (ba.mono L2.out.size)); obtain ⟨p0, _, p2, p3, p4, _⟩ := Dd.range DB0.out; obtain ⟨q0, q1, q2⟩ := cells3 KB0.out; clear ba D2 K2 L2 HSR SZ SZD HR HF hg fsd HUD sizeD HUK HUC fsc fsk FD HK hml
    go_wp2
    go_ret
    exact ⟨rfl, LA.out⟩
  have e1 : decide (d.k = k) = false := by simp [hdk]
  rw [e1] at heq
  have HDK := Lib.hid hdk
  clear hdk e1
  by_cases hk2 : d.kind = 2
  · have b2 : (d.kind == 2) = true := by simp [hk2]
    clear hk2
    go_enter Try.func5, Try.ntmps5
    go_wp2_with (first
    | (refine wpList_box_agg rfl 37 _ rfl g hg d.vals rfl ?_; intro w1 h1 l1 t1)
    | (refine wpList_box_agg rfl 33 _ rfl (g + 1) t1 (v3 k) rfl ?_; intro w2 h2 l2 t2; have D2 : Hid (w2.heap[g]? = some (vobj 37 d.vals)) := Lib.hid ((l2.block g (by omega)).trans h1); have K2 := Lib.hid h2; have L2 : Hid (Below w.heap.size w w2) := Lib.hid (by rw [hg]; exact l1.trans (l2.mono (by omega))); clear h1 h2 l1 l2 t1 t2))
    go_at_call 9; refine (awake_any w2).mono ?_; rintro r wa ⟨rfl, ba⟩; have DB0 : Hid (wa.heap[g]? = some (vobj 37 d.vals)) := Lib.hid (kb_below D2.out ba); have KB0 : Hid (wa.heap[g + 1]? = some (vobj 33 (v3 k))) := Lib.hid (kb_below K2.out ba); have LA : Hid (Below w.heap.size w wa) := Lib.hid (L2.out.trans (ba.mono L2.out.size)); obtain ⟨p0, _, p2, p3, p4, _⟩ := Dd.range DB0.out; obtain ⟨q0, q1, q2⟩ := cells3 KB0.out; clear ba D2 K2 L2 HSR SZ SZD HR HF hg fsd HUD sizeD HUK HUC fsc fsk FD HK hml
    go_wp2
    go_ret
    exact ⟨rfl, LA.out⟩
  have b2 : (d.kind == 2) = false := by simp [hk2]
  by_cases hsc : d.kind ≠ 1 ∧ d.k.a = k.a
  · have b1 : (d.kind != 1) = true := by simp [hsc.1]
    have b3 : (d.k.a == k.a) = true := by simp [hsc.2]
    clear hk2 hsc
    go_enter Try.func5, Try.ntmps5
    go_wp2_with (first
    | (refine wpList_box_agg rfl 37 _ rfl g hg d.vals rfl ?_; intro w1 h1 l1 t1)
    | (refine wpList_box_agg rfl 33 _ rfl (g + 1) t1 (v3 k) rfl ?_; intro w2 h2 l2 t2; have D2 : Hid (w2.heap[g]? = some (vobj 37 d.vals)) := Lib.hid ((l2.block g (by omega)).trans h1); have K2 := Lib.hid h2; have L2 : Hid (Below w.heap.size w w2) := Lib.hid (by rw [hg]; exact l1.trans (l2.mono (by omega))); clear h1 h2 l1 l2 t1 t2))
    go_at_call 9; refine (awake_any w2).mono ?_; rintro r wa ⟨rfl, ba⟩; have DB0 : Hid (wa.heap[g]? = some (vobj 37 d.vals)) := Lib.hid (kb_below D2.out ba); have KB0 : Hid (wa.heap[g + 1]? = some (vobj 33 (v3 k))) := Lib.hid (kb_below K2.out ba); have LA : Hid (Below w.heap.size w wa) := Lib.hid (L2.out.trans (ba.mono L2.out.size)); obtain ⟨p0, _, p2, p3, p4, _⟩ := Dd.range DB0.out; obtain ⟨q0, q1, q2⟩ := cells3 KB0.out; clear ba D2 K2 L2 HSR SZ SZD HR HF hg fsd HUD sizeD HUK HUC fsc fsk FD HK hml
    go_wp2
    go_ret
    exact ⟨rfl, LA.out⟩
  have hd2 : (d.kind = 1 ∧ d.k ≠ k) ∨ (d.kind ≠ 1 ∧ d.kind ≠ 2 ∧ d.k.a ≠ k.a) := by
    by_cases h1 : d.kind = 1
    · exact .inl ⟨h1, HDK.out⟩
    · exact .inr ⟨h1, hk2, fun e => hsc ⟨h1, e⟩⟩
  obtain ⟨an, han⟩ : ∃ an, S.asks k = an := ⟨_, rfl⟩
  obtain ⟨at_, hat⟩ : ∃ t, S.tell k = t := ⟨_, rfl⟩
  have hap := at_deed S d k hd2
  have AN1 : Hid ((S.deed d).asks k = an) := Lib.hid (hap.1.trans han)
  have AT1 : Hid ((S.deed d).tell k = at_) := Lib.hid (hap.2.trans hat)
  have AN2 := Lib.hid han
  have AT2 := Lib.hid hat
  have hbb : ((d.kind != 1) = false) ∨ ((d.kind != 1) = true ∧ (d.k.a == k.a) = false) := by
    rcases hd2 with ⟨h, _⟩ | ⟨h, _, h'⟩
    · exact .inl (by simp [h])
    · exact .inr ⟨by simp [h], by simp [h']⟩
  have hww : Hid (S.Ok → wf3 at_) := Lib.hid (fun h => by rw [← hat]; exact h.tell k)
  clear han hat hap hd2 hk2 hsc
  rcases hbb with b1 | ⟨b1, b3⟩
  all_goals (
    go_enter Try.func5, Try.ntmps5
    go_wp2_with (first
    | (refine wpList_box_agg rfl 37 _ rfl g hg d.vals rfl ?_; intro w1 h1 l1 t1)
    | (refine wpList_box_agg rfl 33 _ rfl (g + 1) t1 (v3 k) rfl ?_; intro w2 h2 l2 t2; have D2 : Hid (w2.heap[g]? = some (vobj 37 d.vals)) := Lib.hid ((l2.block g (by omega)).trans h1); have K2 := Lib.hid h2; have L2 : Hid (Below w.heap.size w w2) := Lib.hid (by rw [hg]; exact l1.trans (l2.mono (by omega))); clear h1 h2 l1 l2 t1 t2))
    go_at_call 9; refine (awake_any w2).mono ?_; rintro r wa ⟨rfl, ba⟩; have DB0 : Hid (wa.heap[g]? = some (vobj 37 d.vals)) := Lib.hid (kb_below D2.out ba); have KB0 : Hid (wa.heap[g + 1]? = some (vobj 33 (v3 k))) := Lib.hid (kb_below K2.out ba); have LA : Hid (Below w.heap.size w wa) := Lib.hid (L2.out.trans (ba.mono L2.out.size)); obtain ⟨p0, _, p2, p3, p4, _⟩ := Dd.range DB0.out; obtain ⟨q0, q1, q2⟩ := cells3 KB0.out; clear ba D2 K2 L2
    have HG := Lib.hid hg; clear hg
    go_wp2_with fail
    go_at_call 13; refine (ran_any a0 l0 k0 V wa (HR.out.later LA.out) HF.out).mono ?_; rintro r w31 ⟨ba, rfl, Fa, ho32⟩; rw [HSR.out] at ho32; have OC33 := Lib.hid (OwC.base ho32 LA.out); have DB34 : Hid (w31.heap[g]? = some (vobj 37 d.vals)) := Lib.hid (kb_below DB0.out ho32.low); have KB35 : Hid (w31.heap[(g + 1)]? = some (vobj 33 (v3 k))) := Lib.hid (kb_below KB0.out ho32.low); have LOW36 : Hid (Below w.heap.size w w31) := Lib.hid (LA.out.trans ((ho32.low).mono LA.out.size)); clear ho32 DB0 KB0 LA
    go_wp2_with fail
    go_at_call 13; refine (ran_any a0 l0 k0 V w31 (HR.out.later OC33.out.low) HF.out).mono ?_; rintro r w37 ⟨bb, rfl, Fb, ho38⟩; rw [HSR.out] at ho38; obtain ⟨F1, F2, o1, cb, hF2, hdis⟩ := oc_split OC33.out ho38; have OC1 := Lib.hid o1; have CB0 := Lib.hid cb; have HF2 := Lib.hid hF2; have DIS0 := Lib.hid hdis; have BSZ : Hid (∀ j, F2 j → j < w37.heap.size) := Lib.hid (fun j h => (hF2 j h).2); have DB39 : Hid (w37.heap[g]? = some (vobj 37 d.vals)) := Lib.hid (kb_below DB34.out ho38.low); have KB40 : Hid (w37.heap[(g + 1)]? = some (vobj 33 (v3 k))) := Lib.hid (kb_below KB35.out ho38.low); clear ho38 o1 cb hF2 hdis DB34 KB35 OC33; have hqq : ∀ w, (Op.equalIn 10000 44 (.agg (aggV (v3 at_))) (.agg (aggV (v3 at_)))).run Try.prog w = .ok true w := (fun w => by have h := sameT at_ at_ (hww.out CB0.out.ok) (hww.out CB0.out.ok) w; rwa [show decide (at_ = at_) = true by simp] at h)
    go_wp2_with (first
    | (refine wpList_load_agg rfl 37 _ rfl g rfl d.vals ?hy _ HUD.out rfl (sizeD _) ?_; (case hy => exact DB39.out)))
    go_at_call 11; refine (do_any w F1 ba S CA.none_ RC.zero d w37 OC1.out (RC.zero_is _ _) FD.out CA.ok_none SZ.out (by decide)).mono ?_; rintro r w41 ⟨Y, rfl, ⟨⟨F3, o3, hsub⟩, _, hf42⟩⟩; have OC3 := Lib.hid o3; have DIS3 : Hid (∀ j, F3 j → ¬ F2 j) := Lib.hid (fun j h3 h2 => DIS0.out j (hsub j (BSZ.out j h2) h3) h2); have DB43 : Hid (w41.heap[g]? = some (vobj 37 d.vals)) := Lib.hid (foot_kept hf42 DB39.out (by decide)); have KB44 : Hid (w41.heap[(g + 1)]? = some (vobj 33 (v3 k))) := Lib.hid (foot_kept hf42 KB40.out (by decide)); have CB45 : Hid (Cch w41 F2 bb S) := Lib.hid (CB0.out.frm hf42 (fun j _ hc h2 => DIS0.out j hc.1 h2)); clear o3 hsub hf42 DB39 KB40 CB0 OC1
    go_wp2_with (first
    | (refine wpList_load_agg rfl 33 _ rfl (g + 1) rfl (v3 k) ?hy _ HUK.out rfl (sizeRK _) ?_; (case hy => exact KB44.out)))
    go_at_call 16; refine (key_any k w41).mono ?_; rintro r w46 ⟨rfl, hb47⟩; have OC51 := Lib.hid (OC3.out.below hb47); have DB48 : Hid (w46.heap[g]? = some (vobj 37 d.vals)) := Lib.hid (kb_below DB43.out hb47); have KB49 : Hid (w46.heap[(g + 1)]? = some (vobj 33 (v3 k))) := Lib.hid (kb_below KB44.out hb47); have CB50 : Hid (Cch w46 F2 bb S) := Lib.hid (CB45.out.below hb47); clear hb47 DB43 KB44 CB45 OC3
    go_wp2_with fail
    go_at_call 15; refine (oc_ask w F3 ba (S.deed d) w46 OC51.out k 1099511627776 HK.out wfBig SZD.out an at_ ((S.deed d).ask k 1099511627776) AN1.out AT1.out rfl).mono ?_; rintro r w52 ⟨rfl, ho54, hf53⟩; have OC55 := Lib.hid ho54; have DB58 : Hid (w52.heap[g]? = some (vobj 37 d.vals)) := Lib.hid (foot_kept hf53 DB48.out (by decide)); have KB59 : Hid (w52.heap[(g + 1)]? = some (vobj 33 (v3 k))) := Lib.hid (foot_kept hf53 KB49.out (by decide)); have CB60 : Hid (Cch w52 F2 bb S) := Lib.hid (CB50.out.frm hf53 (fun j _ hc h2 => DIS3.out j hc.1 h2)); obtain ⟨tg56, hg57⟩ : ∃ g, w52.heap.size = g := ⟨_, rfl⟩; clear ho54 hf53 DB48 KB49 CB50 OC51
    go_wp2_with (first
    | (refine wpList_alloc_agg rfl 44 rfl tg56 hg57 (v3 zero3) (allocT _) ?_; intro w61 ht62 hl63 hs64; have HZ72 : Hid (w.heap.size ≤ tg56) := Lib.hid (by have := OC55.out.low.size; omega); have OC65 := Lib.hid (OC55.out.below (show Below w52.heap.size w52 w61 by rw [hg57]; exact hl63)); have NE67 : Hid (g ≠ tg56) := Lib.hid (by have := heap_lt DB58.out; omega); have NE68 : Hid ((g + 1) ≠ tg56) := Lib.hid (by have := heap_lt KB59.out; omega); have DB69 : Hid (w61.heap[g]? = some (vobj 37 d.vals)) := Lib.hid (kb_below DB58.out (show Below w52.heap.size w52 w61 by rw [hg57]; exact hl63)); have KB70 : Hid (w61.heap[(g + 1)]? = some (vobj 33 (v3 k))) := Lib.hid (kb_below KB59.out (show Below w52.heap.size w52 w61 by rw [hg57]; exact hl63)); have CB71 : Hid (Cch w61 F2 bb S) := Lib.hid (CB60.out.below (show Below w52.heap.size w52 w61 by rw [hg57]; exact hl63)); have NT66 := Lib.hid ht62; clear ht62 hl63 hs64 DB58 KB59 CB60 OC55)
    | (refine wpList_store_agg rfl 44 _ _ rfl tg56 (v3 zero3) (v3 at_) rfl rfl ?hz rfl (sizeT _) (v3_ones _) ?_; (case hz => exact NT66.out); intro w73 ht74 hf75 hs76; have OC77 := Lib.hid (OC65.out.beside NT66.out (by decide) hf75 HZ72.out); have DB78 : Hid (w73.heap[g]? = some (vobj 37 d.vals)) := Lib.hid ((hf75.block _ (heap_lt DB69.out) NE67.out).trans DB69.out); have KB79 : Hid (w73.heap[(g + 1)]? = some (vobj 33 (v3 k))) := Lib.hid ((hf75.block _ (heap_lt KB70.out) NE68.out).trans KB70.out); have CB80 : Hid (Cch w73 F2 bb S) := Lib.hid (CB71.out.beside NT66.out (by decide) hf75); have XB81 := Lib.hid ht74; clear ht74 hf75 hs76 DB69 KB70 CB71 OC65 NT66)
    | (refine wpList_load_agg rfl 33 _ rfl (g + 1) rfl (v3 k) ?hy _ HUK.out rfl (sizeRK _) ?_; (case hy => exact KB79.out)))
    go_at_call 16; refine (key_any k w73).mono ?_; rintro r w82 ⟨rfl, hb83⟩; have OC88 := Lib.hid (OC77.out.below hb83); have DB84 : Hid (w82.heap[g]? = some (vobj 37 d.vals)) := Lib.hid (kb_below DB78.out hb83); have KB85 : Hid (w82.heap[(g + 1)]? = some (vobj 33 (v3 k))) := Lib.hid (kb_below KB79.out hb83); have CB86 : Hid (Cch w82 F2 bb S) := Lib.hid (CB80.out.below hb83); have XB87 : Hid (w82.heap[tg56]? = some (vobj 44 (v3 at_))) := Lib.hid (kb_below XB81.out hb83); clear hb83 DB78 KB79 CB80 XB81 OC77; obtain ⟨F4, o4⟩ := oc_of_cch CB86.out OC88.out.low (fun j h => (HF2.out j h).1); have OC4 := Lib.hid o4; clear o4 CB86 OC88
    go_wp2_with fail
    go_at_call 15; refine (oc_ask w F4 bb S w82 OC4.out k 1099511627776 HK.out wfBig SZ.out an at_ (S.ask k 1099511627776) AN2.out AT2.out rfl).mono ?_; rintro r w89 ⟨rfl, ho91, hf90⟩; have OC92 := Lib.hid ho91; have DB95 : Hid (w89.heap[g]? = some (vobj 37 d.vals)) := Lib.hid (foot_kept hf90 DB84.out (by decide)); have KB96 : Hid (w89.heap[(g + 1)]? = some (vobj 33 (v3 k))) := Lib.hid (foot_kept hf90 KB85.out (by decide)); have XB97 : Hid (w89.heap[tg56]? = some (vobj 44 (v3 at_))) := Lib.hid (foot_kept hf90 XB87.out (by decide)); obtain ⟨tg93, hg94⟩ : ∃ g, w89.heap.size = g := ⟨_, rfl⟩; clear ho91 hf90 DB84 KB85 XB87 OC4
    go_wp2_with (first
    | (refine wpList_alloc_agg rfl 44 rfl tg93 hg94 (v3 zero3) (allocT _) ?_; intro w98 ht99 hl100 hs101; have HZ110 : Hid (w.heap.size ≤ tg93) := Lib.hid (by have := OC92.out.low.size; omega); have OC102 := Lib.hid (OC92.out.below (show Below w89.heap.size w89 w98 by rw [hg94]; exact hl100)); have NE104 : Hid (g ≠ tg93) := Lib.hid (by have := heap_lt DB95.out; omega); have NE105 : Hid ((g + 1) ≠ tg93) := Lib.hid (by have := heap_lt KB96.out; omega); have NE106 : Hid (tg56 ≠ tg93) := Lib.hid (by have := heap_lt XB97.out; omega); have DB107 : Hid (w98.heap[g]? = some (vobj 37 d.vals)) := Lib.hid (kb_below DB95.out (show Below w89.heap.size w89 w98 by rw [hg94]; exact hl100)); have KB108 : Hid (w98.heap[(g + 1)]? = some (vobj 33 (v3 k))) := Lib.hid (kb_below KB96.out (show Below w89.heap.size w89 w98 by rw [hg94]; exact hl100)); have XB109 : Hid (w98.heap[tg56]? = some (vobj 44 (v3 at_))) := Lib.hid (kb_below XB97.out (show Below w89.heap.size w89 w98 by rw [hg94]; exact hl100)); have NT103 := Lib.hid ht99; clear ht99 hl100 hs101 DB95 KB96 XB97 OC92)
    | (refine wpList_store_agg rfl 44 _ _ rfl tg93 (v3 zero3) (v3 at_) rfl rfl ?hz rfl (sizeT _) (v3_ones _) ?_; (case hz => exact NT103.out); intro w111 ht112 hf113 hs114; have OC115 := Lib.hid (OC102.out.beside NT103.out (by decide) hf113 HZ110.out); have DB116 : Hid (w111.heap[g]? = some (vobj 37 d.vals)) := Lib.hid ((hf113.block _ (heap_lt DB107.out) NE104.out).trans DB107.out); have KB117 : Hid (w111.heap[(g + 1)]? = some (vobj 33 (v3 k))) := Lib.hid ((hf113.block _ (heap_lt KB108.out) NE105.out).trans KB108.out); have XB118 : Hid (w111.heap[tg56]? = some (vobj 44 (v3 at_))) := Lib.hid ((hf113.block _ (heap_lt XB109.out) NE106.out).trans XB109.out); have YB119 := Lib.hid ht112; clear ht112 hf113 hs114 DB107 KB108 XB109 OC102 NT103)
    | (refine wpList_load_aggG rfl 44 _ rfl tg56 rfl (v3 at_) ?hy _ HUC.out rfl (sizeT _) ?_; (case hy => exact XB118.out))
    | (refine wpList_load_aggG rfl 44 _ rfl tg93 rfl (v3 at_) ?hy _ HUC.out rfl (sizeT _) ?_; (case hy => exact YB119.out)))
    go_ret
    exact ⟨rfl, by have := OC115.out.low; first | exact this | (rw [HG.out] at this; exact this)⟩)

set_option maxRecDepth 100000 in
theorem lifted (os : Os) (started : os.Started) (H : Type) (enc : TypeId × Value → H) :
    ReturnsInHanded {} Try.checked os 5 .any (Rows.cacheApartSpec.pre6 enc Try.prog Try.f5 Rows.cacheApartRow.domain false) (Rows.cacheApartSpec.post enc Try.prog Try.f5 false true false false) := by
  refine returnsInHanded_of_change_sized (C := Try.checked) own started (by kernel_rfl) Try.func5
    (ChangeSpec.witness6 (enc := enc) (C := Try.checked) false ⟨#[], #[.slice none 0 0, .agg #[.int .i64 0, .int .i64 0, .int .i64 0, .int .i64 0, .int .i64 0, .int .i64 0, .int .i64 0, .int .i64 0], .agg #[.int .i64 0, .int .i64 0, .int .i64 0]], []⟩ 8 (by kernel_rfl) (by kernel_rfl) (by kernel_rfl) (by kernel_rfl)) ?_
  intro W base args ds gs before hval0 hW hcnd hsz0 _
  have hval : ∀ (j : Nat) t v, Try.f5.params[j]? = some t → args[j]? = some v → Value.okWide Try.prog W .any base t v := hval0
  have hsz : (DataW.weightsEach Try.prog (Try.f5.params.toList ++ Rows.cacheApartSpec.plain.varTypes Try.prog) (ds ++ gs)).all (· ≤ reachBytes) = true := hsz0
  have hW' := hW
  obtain ⟨p, q, hA0, hV, rfl, hfz, hnd⟩ := hW
  have hA : DataW.TrodAll enc Try.prog W 0 (fun _ => true) true Try.f5.params.toList args.toList ds p := hA0
  rw [Try.params5] at hA hval hsz
  have hAk := hA
  obtain ⟨v0, vs0, d0, ds0, p0, q0, hargs, rfl, rfl, h0, r0⟩ := trodAll_cons hA
  obtain ⟨v1, vs1, d1, ds1, p1, q1, rfl, rfl, rfl, h1, r1⟩ := trodAll_cons r0
  obtain ⟨v2, vs2, d2, ds2, p2, q2, rfl, rfl, rfl, h2, r2⟩ := trodAll_cons r1
  obtain ⟨rfl, rfl, rfl⟩ := trodAll_nil r2
  obtain rfl : args = #[v0, v1, v2] := by cases args; simp_all
  obtain ⟨rfl, rfl⟩ := trodVars_none hV
  obtain ⟨a0, l0, k0, L0, rfl, w0⟩ := open_slice_flat (ks := [.int .i64, .int .i64, .int .i64, .int .i64, .int .i64, .int .i64, .int .i64, .int .i64]) (bytes := 64) 8 Try.underlying22 (by kernel_rfl) (by kernel_rfl) (by decide) (by kernel_rfl) (hval 0 22 v0 rfl rfl) h0 (fun elems rest hd => by subst hd; exact sized_slice hsz (j := 0) (t := 22) (e := 37) rfl rfl Try.underlying22)
  obtain ⟨c1, rfl, w1⟩ := open_flat (ks := [.int .i64, .int .i64, .int .i64, .int .i64, .int .i64, .int .i64, .int .i64, .int .i64]) 8 (by kernel_rfl) (by kernel_rfl) (hval 1 37 v1 rfl rfl) h1
  obtain ⟨c2, rfl, w2⟩ := open_flat (ks := [.int .i64, .int .i64, .int .i64]) 8 (by kernel_rfl) (by kernel_rfl) (hval 2 33 v2 rfl rfl) h2
  clear hA0 hval0 hsz0
  refine (walk W a0 l0 k0 L0 w0 c1 w1 c2 w2).mono fun e W' ⟨he, bel⟩ => ?_
  subst he
  exact ⟨_, rfl, _, _, _, [], _, [], hW', trodAll_mk1 (shut_bool Try.underlying4 _), trodAll_below laidOut bel _ _ _ _ (by kernel_rfl) hAk, rfl, bel.frame _, fun h => by cases h⟩

theorem over : Rows.cacheApartRow.holds Try.pinned (OpenSpec.ofChange Rows.cacheApartSpec) :=
  OpenClaim.holds_of_wide 5 Try.f5 rfl rfl rfl rfl rfl rfl rfl ⟨rfl, rfl, rfl, rfl, rfl⟩ rfl rfl rfl rfl rfl (by kernel_rfl) Try.func5 (by kernel_rfl)
    (of_decide_eq_true (by kernel_rfl)) (by unfold Func.isWrapper; first | (rw [if_pos (by decide +kernel)]; kernel_rfl) | (rw [if_neg (by decide +kernel)]; exact ⟨rfl, rfl⟩))
    (fun os started H enc _ => lifted os started H enc)

theorem proved : Rows.CacheApartSaid := over
#print axioms proved
end Go.Proofs.Ytlphahkmibhidaa.cacheApart
