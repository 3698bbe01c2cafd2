/- Contracts of porpoiselaw12: awake. (Written by wip/tools/gen_awk12.py.) -/
import Derived.Test.YtlphahkmibhidaaLaw12
namespace Go.Proofs.Ytlphahkmibhidaa
set_option linter.unusedVariables false
open Go.ChangeShapes Go.WideShapes Go.ChangeAt Go.RowKit

def kA : K3 := ⟨1, 0, 5⟩
def tA : K3 := ⟨1, 0, 7⟩
def sA1 : CA := ⟨[⟨kA, 1, false, zero3⟩], [], 0⟩
def sA2 : CA := ⟨[⟨kA, 1, false, zero3⟩], [(1, 2)], 1⟩
def sA3 : CA := ⟨[⟨kA, 1, true, tA⟩], [], 1⟩
def sA4 : CA := ⟨[], [], 1⟩
theorem wf_kA : wf3 kA := ⟨wf64_lit (by decide) (by decide), wf64_lit (by decide) (by decide), wf64_lit (by decide) (by decide)⟩
theorem wf_tA : wf3 tA := ⟨wf64_lit (by decide) (by decide), wf64_lit (by decide) (by decide), wf64_lit (by decide) (by decide)⟩
theorem a1A : CA.none_.size ≤ 1000 ∧ CA.none_.asks kA = 1 ∧ CA.none_.tell kA = zero3 ∧ CA.none_.ask kA 1 = sA1 := ⟨by decide, rfl, rfl, rfl⟩
theorem a2A : sA1.size ≤ 1000 ∧ sA1.asks kA = 2 ∧ sA1.tell kA = zero3 ∧ sA1.ask kA 2 = sA2 := ⟨by decide, rfl, rfl, rfl⟩
theorem a3A : sA2.joined 1 = [2] ∧ sA2.settle 1 tA = sA3 := ⟨rfl, rfl⟩
theorem a4A : sA3.size ≤ 1000 ∧ sA3.asks kA = 3 ∧ sA3.tell kA = tA ∧ sA3.ask kA 3 = sA3 := ⟨by decide, rfl, rfl, rfl⟩
theorem a5A : sA3.closed 1 = 1 ∧ sA3.close 1 = sA4 := ⟨rfl, rfl⟩
theorem wfl1 : wf64 1 := ⟨by decide, by decide⟩
theorem wfl2 : wf64 2 := ⟨by decide, by decide⟩
theorem wfl3 : wf64 3 := ⟨by decide, by decide⟩
theorem wfl4 : wf64 4 := ⟨by decide, by decide⟩
theorem wfl5 : wf64 5 := ⟨by decide, by decide⟩
theorem wfl6 : wf64 6 := ⟨by decide, by decide⟩
set_option maxRecDepth 100000 in
set_option maxHeartbeats 4000000 in
theorem awake_any (w : World) : Calls Try.prog 9 #[] w fun r w' => r = .returned (.bool true) ∧ Below w.heap.size w w' := by
  obtain ⟨fsk, huk⟩ := undK
  have HUK := Lib.hid huk
  have LOW0 : Hid (Below w.heap.size w w) := Lib.hid (Below.refl _ _)
  clear huk
  go_enter Try.func9, Try.ntmps9
  go_wp2_with (first
    | (go_at_call 10; refine (oc_new w w LOW0.out).mono ?_; rintro r w1 ⟨b4, rfl, ho3, hb2⟩; have OC5 := Lib.hid ho3; have LOW6 : Hid (Below w.heap.size w w1) := Lib.hid (LOW0.out.trans ((hb2).mono LOW0.out.size)); clear ho3 hb2 LOW0; obtain ⟨vg7, hv8⟩ : ∃ g, w1.heap.size = g := ⟨_, rfl⟩)
    | (refine wpList_alloc_agg rfl 47 rfl vg7 hv8 (v3 zero3) (allocK _) ?_; intro w9 ht10 hl11 hs12; have HZ15 : Hid (w.heap.size ≤ vg7) := Lib.hid (by have := OC5.out.low.size; omega); have OC13 := Lib.hid (OC5.out.below (show Below w1.heap.size w1 w9 by rw [hv8]; exact hl11)); skip; have NT14 := Lib.hid ht10; clear ht10 hl11 hs12  OC5)
    | (refine wpList_store_agg rfl 47 _ _ rfl vg7 (v3 zero3) (v3 kA) rfl rfl ?hz rfl (sizeK _) (v3_ones _) ?_; (case hz => exact NT14.out); intro w16 ht17 hf18 hs19; have OC20 := Lib.hid (OC13.out.beside NT14.out (by decide) hf18 HZ15.out); skip; have KB21 := Lib.hid ht17; clear ht17 hf18 hs19  OC13 NT14)
    | (refine wpList_load_agg rfl 47 _ rfl vg7 rfl (v3 kA) ?hy _ HUK.out rfl (sizeK _) ?_; (case hy => exact KB21.out))
    | (go_at_call 15; refine (oc_ask w (w.heap.size ≤ ·) b4 CA.none_ w16 OC20.out kA 1 wf_kA wfl1 a1A.1 1 zero3 sA1 a1A.2.1 a1A.2.2.1 a1A.2.2.2).mono ?_; rintro r w22 ⟨rfl, ho24, hf23⟩; have OC25 := Lib.hid ho24; have KB28 : Hid (w22.heap[vg7]? = some (vobj 47 (v3 kA))) := Lib.hid (foot_kept hf23 KB21.out (by decide)); obtain ⟨tg26, hg27⟩ : ∃ g, w22.heap.size = g := ⟨_, rfl⟩; clear ho24 hf23 KB21 OC20)
    | (refine wpList_alloc_agg rfl 44 rfl tg26 hg27 (v3 zero3) (allocT _) ?_; intro w29 ht30 hl31 hs32; have HZ37 : Hid (w.heap.size ≤ tg26) := Lib.hid (by have := OC25.out.low.size; omega); have OC33 := Lib.hid (OC25.out.below (show Below w22.heap.size w22 w29 by rw [hg27]; exact hl31)); have NE35 : Hid (vg7 ≠ tg26) := Lib.hid (by have := heap_lt KB28.out; omega); have KB36 : Hid (w29.heap[vg7]? = some (vobj 47 (v3 kA))) := Lib.hid (kb_below KB28.out (show Below w22.heap.size w22 w29 by rw [hg27]; exact hl31)); have NT34 := Lib.hid ht30; clear ht30 hl31 hs32 KB28 OC25)
    | (refine wpList_store_agg rfl 44 _ _ rfl tg26 (v3 zero3) (v3 zero3) rfl rfl ?hz rfl (sizeT _) (v3_ones _) ?_; (case hz => exact NT34.out); intro w38 ht39 hf40 hs41; have OC42 := Lib.hid (OC33.out.beside NT34.out (by decide) hf40 HZ37.out); have KB43 : Hid (w38.heap[vg7]? = some (vobj 47 (v3 kA))) := Lib.hid ((hf40.block _ (heap_lt KB36.out) NE35.out).trans KB36.out); clear ht39 hf40 hs41 KB36 OC33 NT34)
    | (refine wpList_load_agg rfl 47 _ rfl vg7 rfl (v3 kA) ?hy _ HUK.out rfl (sizeK _) ?_; (case hy => exact KB43.out))
    | (go_at_call 15; refine (oc_ask w (w.heap.size ≤ ·) b4 sA1 w38 OC42.out kA 2 wf_kA wfl2 a2A.1 2 zero3 sA2 a2A.2.1 a2A.2.2.1 a2A.2.2.2).mono ?_; rintro r w44 ⟨rfl, ho46, hf45⟩; have OC47 := Lib.hid ho46; have KB50 : Hid (w44.heap[vg7]? = some (vobj 47 (v3 kA))) := Lib.hid (foot_kept hf45 KB43.out (by decide)); obtain ⟨tg48, hg49⟩ : ∃ g, w44.heap.size = g := ⟨_, rfl⟩; clear ho46 hf45 KB43 OC42)
    | (refine wpList_alloc_agg rfl 44 rfl tg48 hg49 (v3 zero3) (allocT _) ?_; intro w51 ht52 hl53 hs54; have HZ59 : Hid (w.heap.size ≤ tg48) := Lib.hid (by have := OC47.out.low.size; omega); have OC55 := Lib.hid (OC47.out.below (show Below w44.heap.size w44 w51 by rw [hg49]; exact hl53)); have NE57 : Hid (vg7 ≠ tg48) := Lib.hid (by have := heap_lt KB50.out; omega); have KB58 : Hid (w51.heap[vg7]? = some (vobj 47 (v3 kA))) := Lib.hid (kb_below KB50.out (show Below w44.heap.size w44 w51 by rw [hg49]; exact hl53)); have NT56 := Lib.hid ht52; clear ht52 hl53 hs54 KB50 OC47)
    | (refine wpList_store_agg rfl 44 _ _ rfl tg48 (v3 zero3) (v3 zero3) rfl rfl ?hz rfl (sizeT _) (v3_ones _) ?_; (case hz => exact NT56.out); intro w60 ht61 hf62 hs63; have OC64 := Lib.hid (OC55.out.beside NT56.out (by decide) hf62 HZ59.out); have KB65 : Hid (w60.heap[vg7]? = some (vobj 47 (v3 kA))) := Lib.hid ((hf62.block _ (heap_lt KB58.out) NE57.out).trans KB58.out); clear ht61 hf62 hs63 KB58 OC55 NT56)
    | (go_at_call 17; refine (oc_settle w (w.heap.size ≤ ·) b4 sA2 w60 OC64.out 1 tA wfl1 wf_tA [2] sA3 a3A.1 a3A.2).mono ?_; rintro r w66 ⟨A71, n72, c73, rfl, hr69, ho68, hf67⟩; obtain ⟨F74, hF75, ho68⟩ : ∃ F2 : Nat → Prop, (∀ j, F2 j → (show Nat → Prop from (w.heap.size ≤ ·)) j ∧ (Value.slice A71 n72 c73).ownBlock ≠ some j) ∧ OwC w w66 F2 b4 sA3 := ⟨_, fun _ h => h, ho68⟩; have ND76 : Hid (∀ j, F74 j → (Value.slice A71 n72 c73).ownBlock ≠ some j) := Lib.hid (fun j hj => (hF75 j hj).2); have KB78 : Hid (w66.heap[vg7]? = some (vobj 47 (v3 kA))) := Lib.hid (foot_kept hf67 KB65.out (by decide)); have OC70 := Lib.hid ho68; have RW77 := Lib.hid hr69; clear ho68 hf67 hr69 hF75 KB65 OC64)
    | (refine wpList_load_agg rfl 47 _ rfl vg7 rfl (v3 kA) ?hy _ HUK.out rfl (sizeK _) ?_; (case hy => exact KB78.out))
    | (go_at_call 15; refine (oc_ask w F74 b4 sA3 w66 OC70.out kA 3 wf_kA wfl3 a4A.1 3 tA sA3 a4A.2.1 a4A.2.2.1 a4A.2.2.2).mono ?_; rintro r w79 ⟨rfl, ho81, hf80⟩; have OC82 := Lib.hid ho81; have KB85 : Hid (w79.heap[vg7]? = some (vobj 47 (v3 kA))) := Lib.hid (foot_kept hf80 KB78.out (by decide)); have R86 : Hid (Ints w79 w.heap.size (.slice A71 n72 c73) [2]) := Lib.hid (ints_foot RW77.out hf80 ND76.out); obtain ⟨tg83, hg84⟩ : ∃ g, w79.heap.size = g := ⟨_, rfl⟩; clear ho81 hf80 KB78 RW77 OC70)
    | (refine wpList_alloc_agg rfl 44 rfl tg83 hg84 (v3 zero3) (allocT _) ?_; intro w87 ht88 hl89 hs90; have HZ96 : Hid (w.heap.size ≤ tg83) := Lib.hid (by have := OC82.out.low.size; omega); have OC91 := Lib.hid (OC82.out.below (show Below w79.heap.size w79 w87 by rw [hg84]; exact hl89)); have NE93 : Hid (vg7 ≠ tg83) := Lib.hid (by have := heap_lt KB85.out; omega); have KB94 : Hid (w87.heap[vg7]? = some (vobj 47 (v3 kA))) := Lib.hid (kb_below KB85.out (show Below w79.heap.size w79 w87 by rw [hg84]; exact hl89)); have R95 : Hid (Ints w87 w.heap.size (.slice A71 n72 c73) [2]) := Lib.hid (R86.out.below (show Below w79.heap.size w79 w87 by rw [hg84]; exact hl89)); have NT92 := Lib.hid ht88; clear ht88 hl89 hs90 KB85 R86 OC82)
    | (refine wpList_store_agg rfl 44 _ _ rfl tg83 (v3 zero3) (v3 tA) rfl rfl ?hz rfl (sizeT _) (v3_ones _) ?_; (case hz => exact NT92.out); intro w97 ht98 hf99 hs100; have OC101 := Lib.hid (OC91.out.beside NT92.out (by decide) hf99 HZ96.out); have KB102 : Hid (w97.heap[vg7]? = some (vobj 47 (v3 kA))) := Lib.hid ((hf99.block _ (heap_lt KB94.out) NE93.out).trans KB94.out); have R103 : Hid (Ints w97 w.heap.size (.slice A71 n72 c73) [2]) := Lib.hid (R95.out.frm hf99 (one_typ NT92.out (by decide))); have TB104 := Lib.hid ht98; clear ht98 hf99 hs100 KB94 R95 OC91 NT92; have SR : Hid (Row .i64 (w97.alloc (.cells #[.int .i64 2] 3)) (some ⟨w97.heap.size, 0, none⟩) 1 [2]) := Lib.hid (row_one w97 2 wfl2))
    | (go_at_call 19; refine (same_yes2 A71 _ n72 c73 _ _ w.heap.size [2] _ (R103.out.below (below_alloc _ _)) SR.out rfl).mono ?_; rintro r w105 ⟨rfl, ha106⟩; have bs : Below w97.heap.size w97 w105 := (below_ali (below_alloc w97 (.cells #[.int .i64 2] 3)) ha106); have OS := Lib.hid (OC101.out.below bs); obtain ⟨_, _, tv⟩ := cells3 (kb_below TB104.out bs); clear ha106 bs)
    | (go_at_call 12; refine (oc_len w F74 b4 sA4 w108 OC111.out 0 rfl).mono ?_; rintro r w112 ⟨rfl, rfl⟩)
    | (go_at_call 14; refine (oc_close w F74 b4 sA3 w105 OS.out 1 a4A.1 1 sA4 a5A.1 a5A.2).mono ?_; rintro r w108 ⟨rfl, ho110, hf109⟩; have OC111 := Lib.hid ho110; skip; clear ho110 hf109  OS)
    | (go_at_call 12; refine (oc_len w F74 b4 sA3 w105 OS.out 1 rfl).mono ?_; rintro r w107 ⟨rfl, rfl⟩))
  go_ret
  exact ⟨rfl, OC111.out.low⟩
end Go.Proofs.Ytlphahkmibhidaa
