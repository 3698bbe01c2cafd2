/- What is proved: CacheClosed of porpoiselaw12 answers true for every input, and leaves its arguments as they were; conditions: those of the given row alone. -/
import Derived.Test.YtlphahkmibhidaaKit
import Derived.Test.YtlphahkmibhidaaAwk12
namespace Go.Proofs.Ytlphahkmibhidaa.cacheClosed
open Go.ChangeShapes Go.WideShapes Go.ChangeAt Go.RowKit Go.Deep
open Go.ChangeMaps (open_string shut_string)
set_option linter.unusedVariables false

theorem own : ownKnob Try.prog.godebug = none := by kernel_rfl
theorem laidOut : laidOutB Try.prog = true := by kernel_rfl

def s1 (k : K3) : CA := ⟨[⟨k, 1, false, zero3⟩], [], 0⟩
def s2 (k : K3) : CA := ⟨[⟨k, 1, false, zero3⟩], [(1, 2)], 1⟩
def s3 : CA := ⟨[], [(1, 2)], 1⟩
def s4 (k : K3) : CA := ⟨[⟨k, 3, false, zero3⟩], [(1, 2)], 1⟩
def s5 (k : K3) : CA := ⟨[⟨k, 3, false, zero3⟩], [(1, 2), (3, 4)], 2⟩
def s6 (k : K3) : CA := ⟨[⟨k, 3, false, zero3⟩], [(3, 4)], 2⟩
def s7 (k : K3) : CA := ⟨[⟨k, 3, false, zero3⟩], [(3, 4), (3, 5)], 3⟩
theorem e1 (k : K3) (h : k.a ≠ 0) : CA.none_.size ≤ 1000 ∧ CA.none_.asks k = 1 ∧ CA.none_.tell k = zero3 ∧ CA.none_.ask k 1 = s1 k := by simp [CA.size, CA.none_, CA.asks, CA.tell, CA.ask, CA.at_, h, s1]
theorem e2 (k : K3) (h : k.a ≠ 0) : (s1 k).size ≤ 1000 ∧ (s1 k).asks k = 2 ∧ (s1 k).tell k = zero3 ∧ (s1 k).ask k 2 = s2 k := by simp [CA.size, CA.asks, CA.tell, CA.ask, CA.at_, h, s1, s2]
theorem e3 (k : K3) : (s2 k).size ≤ 1000 ∧ (s2 k).closed k.a = 1 ∧ (s2 k).close k.a = s3 := by simp [CA.size, CA.closed, CA.close, s2, s3]
theorem e4 (k : K3) (h : k.a ≠ 0) : s3.size ≤ 1000 ∧ s3.asks k = 1 ∧ s3.tell k = zero3 ∧ s3.ask k 3 = s4 k := by simp [CA.size, CA.asks, CA.tell, CA.ask, CA.at_, h, s3, s4]
theorem e5 (k : K3) (h : k.a ≠ 0) : (s4 k).size ≤ 1000 ∧ (s4 k).asks k = 2 ∧ (s4 k).tell k = zero3 ∧ (s4 k).ask k 4 = s5 k := by simp [CA.size, CA.asks, CA.tell, CA.ask, CA.at_, h, s4, s5]
theorem e6 (k t : K3) : (s5 k).joined 1 = [2] ∧ (s5 k).settle 1 t = s6 k := by simp [CA.joined, CA.settle, CE.sets, s5, s6]
theorem e7 (k : K3) (h : k.a ≠ 0) : (s6 k).size ≤ 1000 ∧ (s6 k).asks k = 2 ∧ (s6 k).tell k = zero3 ∧ (s6 k).ask k 5 = s7 k := by simp [CA.size, CA.asks, CA.tell, CA.ask, CA.at_, h, s6, s7]
theorem e8 (k : K3) : (s7 k).joined 3 = [4, 5] := by simp [CA.joined, s7]

set_option maxRecDepth 100000 in
set_option maxHeartbeats 4000000 in
theorem walk (w : World) (c0 : Array Value) (w0 : Flat [.int .i64, .int .i64, .int .i64] c0.toList) (c1 : Array Value) (w1 : Flat [.int .i64, .int .i64, .int .i64] c1.toList) :
    Calls Try.prog 7 #[.agg c0, .agg c1] w fun e w' => e = .returned (.bool true) ∧ Below w.heap.size w w' := by
  obtain ⟨k, ek, hk⟩ := flat_v3 w0
  obtain ⟨t, et, ht⟩ := flat_v3 w1
  obtain rfl : c0 = aggV (v3 k) := by rw [← ek]; rfl
  obtain rfl : c1 = aggV (v3 t) := by rw [← et]; rfl
  obtain ⟨g, hg⟩ : ∃ g, w.heap.size = g := ⟨_, rfl⟩
  obtain ⟨fsk, huk⟩ := undRK
  have HUK := Lib.hid huk
  obtain ⟨fst, hut⟩ := undRT
  have HUT := Lib.hid hut
  have HK := Lib.hid hk
  have HT := Lib.hid ht
  clear ek et hk ht w0 w1 huk hut
  by_cases h0 : k.a = 0
  · have hb0 : (k.a == 0) = true := by simp [h0]
    clear h0
    go_enter Try.func7, Try.ntmps7
    go_wp2_with (first
    | (refine wpList_box_agg rfl 33 _ rfl g hg (v3 k) rfl ?_; intro w1 h1 l1 t1)
    | (refine wpList_box_agg rfl 35 _ rfl (g + 1) t1 (v3 t) rfl ?_; intro w2 h2 l2 t2; have KB0 : Hid (w2.heap[g]? = some (vobj 33 (v3 k))) := Lib.hid ((l2.block g (by omega)).trans h1); have TB0 := Lib.hid h2; have LOW0 : Hid (Below w.heap.size w w2) := Lib.hid (by rw [hg]; exact l1.trans (l2.mono (by omega))); clear h1 h2 l1 l2 t1 t2)
    | (go_at_call 9; refine (awake_any w2).mono ?_; rintro r w11 ⟨rfl, hb12⟩; have TB13 : Hid (w11.heap[(g + 1)]? = some (vobj 35 (v3 t))) := Lib.hid (kb_below TB0.out hb12); have KB14 : Hid (w11.heap[g]? = some (vobj 33 (v3 k))) := Lib.hid (kb_below KB0.out hb12); have LOW15 : Hid (Below w.heap.size w w11) := Lib.hid (LOW0.out.trans ((hb12).mono LOW0.out.size)); clear hb12 TB0 KB0 LOW0 ; obtain ⟨d0, _, _⟩ := cells3 KB14.out))
    go_ret
    exact ⟨rfl, by have := LOW15.out; first | exact this | (rw [hg] at this; exact this)⟩
  · have hb0 : (k.a == 0) = false := by simp [h0]
    have H0 := Lib.hid h0
    clear h0
    go_enter Try.func7, Try.ntmps7
    go_wp2_with (first
    | (refine wpList_box_agg rfl 33 _ rfl g hg (v3 k) rfl ?_; intro w1 h1 l1 t1)
    | (refine wpList_box_agg rfl 35 _ rfl (g + 1) t1 (v3 t) rfl ?_; intro w2 h2 l2 t2; have KB0 : Hid (w2.heap[g]? = some (vobj 33 (v3 k))) := Lib.hid ((l2.block g (by omega)).trans h1); have TB0 := Lib.hid h2; have LOW0 : Hid (Below w.heap.size w w2) := Lib.hid (by rw [hg]; exact l1.trans (l2.mono (by omega))); clear h1 h2 l1 l2 t1 t2)
    | (go_at_call 9; refine (awake_any w2).mono ?_; rintro r w11 ⟨rfl, hb12⟩; have TB13 : Hid (w11.heap[(g + 1)]? = some (vobj 35 (v3 t))) := Lib.hid (kb_below TB0.out hb12); have KB14 : Hid (w11.heap[g]? = some (vobj 33 (v3 k))) := Lib.hid (kb_below KB0.out hb12); have LOW15 : Hid (Below w.heap.size w w11) := Lib.hid (LOW0.out.trans ((hb12).mono LOW0.out.size)); clear hb12 TB0 KB0 LOW0 ; obtain ⟨d0, _, _⟩ := cells3 KB14.out)
    | (go_at_call 10; refine (oc_new w w11 LOW15.out).mono ?_; rintro r w16 ⟨b19, rfl, ho18, hb17⟩; have OC20 := Lib.hid ho18; have TB21 : Hid (w16.heap[(g + 1)]? = some (vobj 35 (v3 t))) := Lib.hid (kb_below TB13.out hb17); have KB22 : Hid (w16.heap[g]? = some (vobj 33 (v3 k))) := Lib.hid (kb_below KB14.out hb17); have LOW23 : Hid (Below w.heap.size w w16) := Lib.hid (LOW15.out.trans ((hb17).mono LOW15.out.size)); clear ho18 hb17 TB13 KB14 LOW15)
    | (refine wpList_load_agg rfl 33 _ rfl g rfl (v3 k) ?hy _ HUK.out rfl (sizeRK _) ?_; (case hy => exact KB22.out))
    | (go_at_call 16; refine (key_any k w16).mono ?_; rintro r w24 ⟨rfl, hb25⟩; have OC28 := Lib.hid (OC20.out.below hb25); have TB26 : Hid (w24.heap[(g + 1)]? = some (vobj 35 (v3 t))) := Lib.hid (kb_below TB21.out hb25); have KB27 : Hid (w24.heap[g]? = some (vobj 33 (v3 k))) := Lib.hid (kb_below KB22.out hb25); clear hb25 TB21 KB22 OC20)
    | (go_at_call 15; refine (oc_ask w (w11.heap.size ≤ ·) b19 CA.none_ w24 OC28.out k 1 HK.out wfl1 (e1 k H0.out).1 1 zero3 (s1 k) (e1 k H0.out).2.1 (e1 k H0.out).2.2.1 (e1 k H0.out).2.2.2).mono ?_; rintro r w29 ⟨rfl, ho31, hf30⟩; have OC32 := Lib.hid ho31; have TB35 : Hid (w29.heap[(g + 1)]? = some (vobj 35 (v3 t))) := Lib.hid (foot_kept hf30 TB26.out (by decide)); have KB36 : Hid (w29.heap[g]? = some (vobj 33 (v3 k))) := Lib.hid (foot_kept hf30 KB27.out (by decide)); obtain ⟨tg33, hg34⟩ : ∃ g, w29.heap.size = g := ⟨_, rfl⟩; clear ho31 hf30 TB26 KB27 OC28)
    | (refine wpList_load_agg rfl 33 _ rfl g rfl (v3 k) ?hy _ HUK.out rfl (sizeRK _) ?_; (case hy => exact KB36.out))
    | (go_at_call 16; refine (key_any k w29).mono ?_; rintro r w37 ⟨rfl, hb38⟩; have OC41 := Lib.hid (OC32.out.below hb38); have TB39 : Hid (w37.heap[(g + 1)]? = some (vobj 35 (v3 t))) := Lib.hid (kb_below TB35.out hb38); have KB40 : Hid (w37.heap[g]? = some (vobj 33 (v3 k))) := Lib.hid (kb_below KB36.out hb38); clear hb38 TB35 KB36 OC32)
    | (go_at_call 15; refine (oc_ask w (w11.heap.size ≤ ·) b19 (s1 k) w37 OC41.out k 2 HK.out wfl2 (e2 k H0.out).1 2 zero3 (s2 k) (e2 k H0.out).2.1 (e2 k H0.out).2.2.1 (e2 k H0.out).2.2.2).mono ?_; rintro r w42 ⟨rfl, ho44, hf43⟩; have OC45 := Lib.hid ho44; have TB48 : Hid (w42.heap[(g + 1)]? = some (vobj 35 (v3 t))) := Lib.hid (foot_kept hf43 TB39.out (by decide)); have KB49 : Hid (w42.heap[g]? = some (vobj 33 (v3 k))) := Lib.hid (foot_kept hf43 KB40.out (by decide)); obtain ⟨tg46, hg47⟩ : ∃ g, w42.heap.size = g := ⟨_, rfl⟩; clear ho44 hf43 TB39 KB40 OC41; obtain ⟨d1, _, _⟩ := cells3 KB49.out)
    | (go_at_call 14; refine (oc_close w (w11.heap.size ≤ ·) b19 (s2 k) w42 OC45.out k.a (e3 k).1 1 s3 (e3 k).2.1 (e3 k).2.2).mono ?_; rintro r w50 ⟨rfl, ho52, hf51⟩; have OC53 := Lib.hid ho52; have TB54 : Hid (w50.heap[(g + 1)]? = some (vobj 35 (v3 t))) := Lib.hid (foot_kept hf51 TB48.out (by decide)); have KB55 : Hid (w50.heap[g]? = some (vobj 33 (v3 k))) := Lib.hid (foot_kept hf51 KB49.out (by decide)); clear ho52 hf51 TB48 KB49 OC45)
    | (refine wpList_load_agg rfl 33 _ rfl g rfl (v3 k) ?hy _ HUK.out rfl (sizeRK _) ?_; (case hy => exact KB55.out))
    | (go_at_call 16; refine (key_any k w50).mono ?_; rintro r w56 ⟨rfl, hb57⟩; have OC60 := Lib.hid (OC53.out.below hb57); have TB58 : Hid (w56.heap[(g + 1)]? = some (vobj 35 (v3 t))) := Lib.hid (kb_below TB54.out hb57); have KB59 : Hid (w56.heap[g]? = some (vobj 33 (v3 k))) := Lib.hid (kb_below KB55.out hb57); clear hb57 TB54 KB55 OC53)
    | (go_at_call 15; refine (oc_ask w (w11.heap.size ≤ ·) b19 s3 w56 OC60.out k 3 HK.out wfl3 (e4 k H0.out).1 1 zero3 (s4 k) (e4 k H0.out).2.1 (e4 k H0.out).2.2.1 (e4 k H0.out).2.2.2).mono ?_; rintro r w61 ⟨rfl, ho63, hf62⟩; have OC64 := Lib.hid ho63; have TB67 : Hid (w61.heap[(g + 1)]? = some (vobj 35 (v3 t))) := Lib.hid (foot_kept hf62 TB58.out (by decide)); have KB68 : Hid (w61.heap[g]? = some (vobj 33 (v3 k))) := Lib.hid (foot_kept hf62 KB59.out (by decide)); obtain ⟨tg65, hg66⟩ : ∃ g, w61.heap.size = g := ⟨_, rfl⟩; clear ho63 hf62 TB58 KB59 OC60)
    | (refine wpList_alloc_agg rfl 44 rfl tg65 hg66 (v3 zero3) (allocT _) ?_; intro w69 ht70 hl71 hs72; have HZ79 : Hid (w.heap.size ≤ tg65) := Lib.hid (by have := OC64.out.low.size; omega); have OC73 := Lib.hid (OC64.out.below (show Below w61.heap.size w61 w69 by rw [hg66]; exact hl71)); have NE75 : Hid ((g + 1) ≠ tg65) := Lib.hid (by have := heap_lt TB67.out; omega); have NE76 : Hid (g ≠ tg65) := Lib.hid (by have := heap_lt KB68.out; omega); have TB77 : Hid (w69.heap[(g + 1)]? = some (vobj 35 (v3 t))) := Lib.hid (kb_below TB67.out (show Below w61.heap.size w61 w69 by rw [hg66]; exact hl71)); have KB78 : Hid (w69.heap[g]? = some (vobj 33 (v3 k))) := Lib.hid (kb_below KB68.out (show Below w61.heap.size w61 w69 by rw [hg66]; exact hl71)); have NT74 := Lib.hid ht70; clear ht70 hl71 hs72 TB67 KB68 OC64)
    | (refine wpList_store_agg rfl 44 _ _ rfl tg65 (v3 zero3) (v3 zero3) rfl rfl ?hz rfl (sizeT _) (v3_ones _) ?_; (case hz => exact NT74.out); intro w80 ht81 hf82 hs83; have OC84 := Lib.hid (OC73.out.beside NT74.out (by decide) hf82 HZ79.out); have TB85 : Hid (w80.heap[(g + 1)]? = some (vobj 35 (v3 t))) := Lib.hid ((hf82.block _ (heap_lt TB77.out) NE75.out).trans TB77.out); have KB86 : Hid (w80.heap[g]? = some (vobj 33 (v3 k))) := Lib.hid ((hf82.block _ (heap_lt KB78.out) NE76.out).trans KB78.out); clear ht81 hf82 hs83 TB77 KB78 OC73 NT74)
    | (refine wpList_load_agg rfl 33 _ rfl g rfl (v3 k) ?hy _ HUK.out rfl (sizeRK _) ?_; (case hy => exact KB86.out))
    | (go_at_call 16; refine (key_any k w80).mono ?_; rintro r w87 ⟨rfl, hb88⟩; have OC91 := Lib.hid (OC84.out.below hb88); have TB89 : Hid (w87.heap[(g + 1)]? = some (vobj 35 (v3 t))) := Lib.hid (kb_below TB85.out hb88); have KB90 : Hid (w87.heap[g]? = some (vobj 33 (v3 k))) := Lib.hid (kb_below KB86.out hb88); clear hb88 TB85 KB86 OC84)
    | (go_at_call 15; refine (oc_ask w (w11.heap.size ≤ ·) b19 (s4 k) w87 OC91.out k 4 HK.out wfl4 (e5 k H0.out).1 2 zero3 (s5 k) (e5 k H0.out).2.1 (e5 k H0.out).2.2.1 (e5 k H0.out).2.2.2).mono ?_; rintro r w92 ⟨rfl, ho94, hf93⟩; have OC95 := Lib.hid ho94; have TB98 : Hid (w92.heap[(g + 1)]? = some (vobj 35 (v3 t))) := Lib.hid (foot_kept hf93 TB89.out (by decide)); have KB99 : Hid (w92.heap[g]? = some (vobj 33 (v3 k))) := Lib.hid (foot_kept hf93 KB90.out (by decide)); obtain ⟨tg96, hg97⟩ : ∃ g, w92.heap.size = g := ⟨_, rfl⟩; clear ho94 hf93 TB89 KB90 OC91)
    | (refine wpList_alloc_agg rfl 44 rfl tg96 hg97 (v3 zero3) (allocT _) ?_; intro w100 ht101 hl102 hs103; have HZ110 : Hid (w.heap.size ≤ tg96) := Lib.hid (by have := OC95.out.low.size; omega); have OC104 := Lib.hid (OC95.out.below (show Below w92.heap.size w92 w100 by rw [hg97]; exact hl102)); have NE106 : Hid ((g + 1) ≠ tg96) := Lib.hid (by have := heap_lt TB98.out; omega); have NE107 : Hid (g ≠ tg96) := Lib.hid (by have := heap_lt KB99.out; omega); have TB108 : Hid (w100.heap[(g + 1)]? = some (vobj 35 (v3 t))) := Lib.hid (kb_below TB98.out (show Below w92.heap.size w92 w100 by rw [hg97]; exact hl102)); have KB109 : Hid (w100.heap[g]? = some (vobj 33 (v3 k))) := Lib.hid (kb_below KB99.out (show Below w92.heap.size w92 w100 by rw [hg97]; exact hl102)); have NT105 := Lib.hid ht101; clear ht101 hl102 hs103 TB98 KB99 OC95)
    | (refine wpList_store_agg rfl 44 _ _ rfl tg96 (v3 zero3) (v3 zero3) rfl rfl ?hz rfl (sizeT _) (v3_ones _) ?_; (case hz => exact NT105.out); intro w111 ht112 hf113 hs114; have OC115 := Lib.hid (OC104.out.beside NT105.out (by decide) hf113 HZ110.out); have TB116 : Hid (w111.heap[(g + 1)]? = some (vobj 35 (v3 t))) := Lib.hid ((hf113.block _ (heap_lt TB108.out) NE106.out).trans TB108.out); have KB117 : Hid (w111.heap[g]? = some (vobj 33 (v3 k))) := Lib.hid ((hf113.block _ (heap_lt KB109.out) NE107.out).trans KB109.out); clear ht112 hf113 hs114 TB108 KB109 OC104 NT105)
    | (refine wpList_load_agg rfl 35 _ rfl (g + 1) rfl (v3 t) ?hy _ HUT.out rfl (sizeRT _) ?_; (case hy => exact TB116.out))
    | (go_at_call 18; refine (told_any t w111).mono ?_; rintro r w118 ⟨rfl, hb119⟩; have OC122 := Lib.hid (OC115.out.below hb119); have TB120 : Hid (w118.heap[(g + 1)]? = some (vobj 35 (v3 t))) := Lib.hid (kb_below TB116.out hb119); have KB121 : Hid (w118.heap[g]? = some (vobj 33 (v3 k))) := Lib.hid (kb_below KB117.out hb119); clear hb119 TB116 KB117 OC115)
    | (go_at_call 17; refine (oc_settle w (w11.heap.size ≤ ·) b19 (s5 k) w118 OC122.out 1 t wfl1 HT.out [2] (s6 k) (e6 k t).1 (e6 k t).2).mono ?_; rintro r w123 ⟨A128, n129, c130, rfl, hr126, ho125, hf124⟩; obtain ⟨F131, hF132, ho125⟩ : ∃ F2 : Nat → Prop, (∀ j, F2 j → (show Nat → Prop from (w11.heap.size ≤ ·)) j ∧ (Value.slice A128 n129 c130).ownBlock ≠ some j) ∧ OwC w w123 F2 b19 (s6 k) := ⟨_, fun _ h => h, ho125⟩; have ND133 : Hid (∀ j, F131 j → (Value.slice A128 n129 c130).ownBlock ≠ some j) := Lib.hid (fun j hj => (hF132 j hj).2); have TB135 : Hid (w123.heap[(g + 1)]? = some (vobj 35 (v3 t))) := Lib.hid (foot_kept hf124 TB120.out (by decide)); have KB136 : Hid (w123.heap[g]? = some (vobj 33 (v3 k))) := Lib.hid (foot_kept hf124 KB121.out (by decide)); have OC127 := Lib.hid ho125; have RW134 := Lib.hid hr126; clear ho125 hf124 hr126 hF132 TB120 KB121 OC122)
    | (refine wpList_load_agg rfl 33 _ rfl g rfl (v3 k) ?hy _ HUK.out rfl (sizeRK _) ?_; (case hy => exact KB136.out))
    | (go_at_call 16; refine (key_any k w123).mono ?_; rintro r w137 ⟨rfl, hb138⟩; have OC142 := Lib.hid (OC127.out.below hb138); have TB139 : Hid (w137.heap[(g + 1)]? = some (vobj 35 (v3 t))) := Lib.hid (kb_below TB135.out hb138); have KB140 : Hid (w137.heap[g]? = some (vobj 33 (v3 k))) := Lib.hid (kb_below KB136.out hb138); have R1141 : Hid (Ints w137 w.heap.size (.slice A128 n129 c130) [2]) := Lib.hid (RW134.out.below hb138); clear hb138 TB135 KB136 RW134 OC127)
    | (go_at_call 15; refine (oc_ask w F131 b19 (s6 k) w137 OC142.out k 5 HK.out wfl5 (e7 k H0.out).1 2 zero3 (s7 k) (e7 k H0.out).2.1 (e7 k H0.out).2.2.1 (e7 k H0.out).2.2.2).mono ?_; rintro r w143 ⟨rfl, ho145, hf144⟩; have OC146 := Lib.hid ho145; have TB149 : Hid (w143.heap[(g + 1)]? = some (vobj 35 (v3 t))) := Lib.hid (foot_kept hf144 TB139.out (by decide)); have KB150 : Hid (w143.heap[g]? = some (vobj 33 (v3 k))) := Lib.hid (foot_kept hf144 KB140.out (by decide)); have R1151 : Hid (Ints w143 w.heap.size (.slice A128 n129 c130) [2]) := Lib.hid (ints_foot R1141.out hf144 ND133.out); obtain ⟨tg147, hg148⟩ : ∃ g, w143.heap.size = g := ⟨_, rfl⟩; clear ho145 hf144 TB139 KB140 R1141 OC142)
    | (refine wpList_alloc_agg rfl 44 rfl tg147 hg148 (v3 zero3) (allocT _) ?_; intro w152 ht153 hl154 hs155; have HZ163 : Hid (w.heap.size ≤ tg147) := Lib.hid (by have := OC146.out.low.size; omega); have OC156 := Lib.hid (OC146.out.below (show Below w143.heap.size w143 w152 by rw [hg148]; exact hl154)); have NE158 : Hid ((g + 1) ≠ tg147) := Lib.hid (by have := heap_lt TB149.out; omega); have NE159 : Hid (g ≠ tg147) := Lib.hid (by have := heap_lt KB150.out; omega); have TB160 : Hid (w152.heap[(g + 1)]? = some (vobj 35 (v3 t))) := Lib.hid (kb_below TB149.out (show Below w143.heap.size w143 w152 by rw [hg148]; exact hl154)); have KB161 : Hid (w152.heap[g]? = some (vobj 33 (v3 k))) := Lib.hid (kb_below KB150.out (show Below w143.heap.size w143 w152 by rw [hg148]; exact hl154)); have R1162 : Hid (Ints w152 w.heap.size (.slice A128 n129 c130) [2]) := Lib.hid (R1151.out.below (show Below w143.heap.size w143 w152 by rw [hg148]; exact hl154)); have NT157 := Lib.hid ht153; clear ht153 hl154 hs155 TB149 KB150 R1151 OC146)
    | (refine wpList_store_agg rfl 44 _ _ rfl tg147 (v3 zero3) (v3 zero3) rfl rfl ?hz rfl (sizeT _) (v3_ones _) ?_; (case hz => exact NT157.out); intro w164 ht165 hf166 hs167; have OC168 := Lib.hid (OC156.out.beside NT157.out (by decide) hf166 HZ163.out); have TB169 : Hid (w164.heap[(g + 1)]? = some (vobj 35 (v3 t))) := Lib.hid ((hf166.block _ (heap_lt TB160.out) NE158.out).trans TB160.out); have KB170 : Hid (w164.heap[g]? = some (vobj 33 (v3 k))) := Lib.hid ((hf166.block _ (heap_lt KB161.out) NE159.out).trans KB161.out); have R1171 : Hid (Ints w164 w.heap.size (.slice A128 n129 c130) [2]) := Lib.hid (R1162.out.frm hf166 (one_typ NT157.out (by decide))); clear ht165 hf166 hs167 TB160 KB161 R1162 OC156 NT157)
    | (refine wpList_load_agg rfl 35 _ rfl (g + 1) rfl (v3 t) ?hy _ HUT.out rfl (sizeRT _) ?_; (case hy => exact TB169.out))
    | (go_at_call 18; refine (told_any t w164).mono ?_; rintro r w172 ⟨rfl, hb173⟩; have OC177 := Lib.hid (OC168.out.below hb173); have TB174 : Hid (w172.heap[(g + 1)]? = some (vobj 35 (v3 t))) := Lib.hid (kb_below TB169.out hb173); have KB175 : Hid (w172.heap[g]? = some (vobj 33 (v3 k))) := Lib.hid (kb_below KB170.out hb173); have R1176 : Hid (Ints w172 w.heap.size (.slice A128 n129 c130) [2]) := Lib.hid (R1171.out.below hb173); clear hb173 TB169 KB170 R1171 OC168)
    | (go_at_call 17; refine (oc_settle w F131 b19 (s7 k) w172 OC177.out 3 t wfl3 HT.out [4, 5] ((s7 k).settle 3 t) (e8 k) rfl).mono ?_; rintro r w178 ⟨A183, n184, c185, rfl, hr181, ho180, hf179⟩; obtain ⟨F186, hF187, ho180⟩ : ∃ F2 : Nat → Prop, (∀ j, F2 j → (show Nat → Prop from F131) j ∧ (Value.slice A183 n184 c185).ownBlock ≠ some j) ∧ OwC w w178 F2 b19 ((s7 k).settle 3 t) := ⟨_, fun _ h => h, ho180⟩; have ND188 : Hid (∀ j, F186 j → (Value.slice A183 n184 c185).ownBlock ≠ some j) := Lib.hid (fun j hj => (hF187 j hj).2); have ND193 : Hid (∀ j, F186 j → (Value.slice A128 n129 c130).ownBlock ≠ some j) := Lib.hid (fun j hj => ND133.out j (hF187 j hj).1); have TB190 : Hid (w178.heap[(g + 1)]? = some (vobj 35 (v3 t))) := Lib.hid (foot_kept hf179 TB174.out (by decide)); have KB191 : Hid (w178.heap[g]? = some (vobj 33 (v3 k))) := Lib.hid (foot_kept hf179 KB175.out (by decide)); have R1192 : Hid (Ints w178 w.heap.size (.slice A128 n129 c130) [2]) := Lib.hid (ints_foot R1176.out hf179 ND133.out); have OC182 := Lib.hid ho180; have RW189 := Lib.hid hr181; clear ho180 hf179 hr181 hF187 TB174 KB175 R1176 OC177; have SR1 : Hid (Row .i64 (w178.alloc (.cells #[.int .i64 2] 3)) (some ⟨w178.heap.size, 0, none⟩) 1 [2]) := Lib.hid (row_new w178 [2] rfl (by decide) (by intro z hz; rw [List.mem_singleton.1 hz]; exact wfl2)))
    | (go_at_call 19; refine (same_yes2 A128 _ n129 c130 _ _ w.heap.size [2] _ (R1192.out.below (below_alloc _ _)) SR1.out rfl).mono ?_; rintro r w194 ⟨rfl, ha195⟩; have OC200 := Lib.hid (OC182.out.below (below_ali (below_alloc w178 (.cells #[.int .i64 2] 3)) ha195)); have TB196 : Hid (w194.heap[(g + 1)]? = some (vobj 35 (v3 t))) := Lib.hid (kb_below TB190.out (below_ali (below_alloc w178 (.cells #[.int .i64 2] 3)) ha195)); have KB197 : Hid (w194.heap[g]? = some (vobj 33 (v3 k))) := Lib.hid (kb_below KB191.out (below_ali (below_alloc w178 (.cells #[.int .i64 2] 3)) ha195)); have R1198 : Hid (Ints w194 w.heap.size (.slice A128 n129 c130) [2]) := Lib.hid (R1192.out.below (below_ali (below_alloc w178 (.cells #[.int .i64 2] 3)) ha195)); have R2199 : Hid (Ints w194 w.heap.size (.slice A183 n184 c185) [4, 5]) := Lib.hid (RW189.out.below (below_ali (below_alloc w178 (.cells #[.int .i64 2] 3)) ha195)); clear ha195 TB190 KB191 R1192 RW189 OC182; have SR2 : Hid (Row .i64 (w194.alloc (.cells #[.int .i64 4, .int .i64 5] 3)) (some ⟨w194.heap.size, 0, none⟩) 2 [4, 5]) := Lib.hid (row_new w194 [4, 5] rfl (by decide) (by intro z hz; simp only [List.mem_cons, List.not_mem_nil, or_false] at hz; rcases hz with rfl | rfl; exact wfl4; exact wfl5)))
    | (go_at_call 19; refine (same_yes2 A183 _ n184 c185 _ _ w.heap.size [4, 5] _ (R2199.out.below (below_alloc _ _)) SR2.out rfl).mono ?_; rintro r w201 ⟨rfl, ha202⟩; have OC207 := Lib.hid (OC200.out.below (below_ali (below_alloc w194 (.cells #[.int .i64 4, .int .i64 5] 3)) ha202)); have TB203 : Hid (w201.heap[(g + 1)]? = some (vobj 35 (v3 t))) := Lib.hid (kb_below TB196.out (below_ali (below_alloc w194 (.cells #[.int .i64 4, .int .i64 5] 3)) ha202)); have KB204 : Hid (w201.heap[g]? = some (vobj 33 (v3 k))) := Lib.hid (kb_below KB197.out (below_ali (below_alloc w194 (.cells #[.int .i64 4, .int .i64 5] 3)) ha202)); have R1205 : Hid (Ints w201 w.heap.size (.slice A128 n129 c130) [2]) := Lib.hid (R1198.out.below (below_ali (below_alloc w194 (.cells #[.int .i64 4, .int .i64 5] 3)) ha202)); have R2206 : Hid (Ints w201 w.heap.size (.slice A183 n184 c185) [4, 5]) := Lib.hid (R2199.out.below (below_ali (below_alloc w194 (.cells #[.int .i64 4, .int .i64 5] 3)) ha202)); clear ha202 TB196 KB197 R1198 R2199 OC200))
    go_ret
    exact ⟨rfl, by have := OC207.out.low; first | exact this | (rw [hg] at this; exact this)⟩

set_option maxRecDepth 100000 in
theorem lifted (os : Os) (started : os.Started) (H : Type) (enc : TypeId × Value → H) :
    ReturnsInHanded {} Try.checked os 7 .any (Rows.cacheClosedSpec.pre6 enc Try.prog Try.f7 Rows.cacheClosedRow.domain false) (Rows.cacheClosedSpec.post enc Try.prog Try.f7 false true false false) := by
  refine returnsInHanded_of_change_sized (C := Try.checked) own started (by kernel_rfl) Try.func7
    (ChangeSpec.witness6 (enc := enc) (C := Try.checked) false ⟨#[], #[.agg #[.int .i64 0, .int .i64 0, .int .i64 0], .agg #[.int .i64 0, .int .i64 0, .int .i64 0]], []⟩ 8 (by kernel_rfl) (by kernel_rfl) (by kernel_rfl) (by kernel_rfl)) ?_
  intro W base args ds gs before hval0 hW hcnd hsz0 _
  have hval : ∀ (j : Nat) t v, Try.f7.params[j]? = some t → args[j]? = some v → Value.okWide Try.prog W .any base t v := hval0
  have hsz : (DataW.weightsEach Try.prog (Try.f7.params.toList ++ Rows.cacheClosedSpec.plain.varTypes Try.prog) (ds ++ gs)).all (· ≤ reachBytes) = true := hsz0
  have hW' := hW
  obtain ⟨p, q, hA0, hV, rfl, hfz, hnd⟩ := hW
  have hA : DataW.TrodAll enc Try.prog W 0 (fun _ => true) true Try.f7.params.toList args.toList ds p := hA0
  rw [Try.params7] at hA hval hsz
  have hAk := hA
  obtain ⟨v0, vs0, d0, ds0, p0, q0, hargs, rfl, rfl, h0, r0⟩ := trodAll_cons hA
  obtain ⟨v1, vs1, d1, ds1, p1, q1, rfl, rfl, rfl, h1, r1⟩ := trodAll_cons r0
  obtain ⟨rfl, rfl, rfl⟩ := trodAll_nil r1
  obtain rfl : args = #[v0, v1] := by cases args; simp_all
  obtain ⟨rfl, rfl⟩ := trodVars_none hV
  obtain ⟨c0, rfl, w0⟩ := open_flat (ks := [.int .i64, .int .i64, .int .i64]) 8 (by kernel_rfl) (by kernel_rfl) (hval 0 33 v0 rfl rfl) h0
  obtain ⟨c1, rfl, w1⟩ := open_flat (ks := [.int .i64, .int .i64, .int .i64]) 8 (by kernel_rfl) (by kernel_rfl) (hval 1 35 v1 rfl rfl) h1
  clear hA0 hval0 hsz0
  refine (walk W c0 w0 c1 w1).mono fun e W' ⟨he, bel⟩ => ?_
  subst he
  exact ⟨_, rfl, _, _, _, [], _, [], hW', trodAll_mk1 (shut_bool Try.underlying4 _), trodAll_below laidOut bel _ _ _ _ (by kernel_rfl) hAk, rfl, bel.frame _, fun h => by cases h⟩

theorem over : Rows.cacheClosedRow.holds Try.pinned (OpenSpec.ofChange Rows.cacheClosedSpec) :=
  OpenClaim.holds_of_wide 7 Try.f7 rfl rfl rfl rfl rfl rfl rfl ⟨rfl, rfl, rfl, rfl, rfl⟩ rfl rfl rfl rfl rfl (by kernel_rfl) Try.func7 (by kernel_rfl)
    (of_decide_eq_true (by kernel_rfl)) (by unfold Func.isWrapper; first | (rw [if_pos (by decide +kernel)]; kernel_rfl) | (rw [if_neg (by decide +kernel)]; exact ⟨rfl, rfl⟩))
    (fun os started H enc _ => lifted os started H enc)

theorem proved : Rows.CacheClosedSaid := over
#print axioms proved
end Go.Proofs.Ytlphahkmibhidaa.cacheClosed
