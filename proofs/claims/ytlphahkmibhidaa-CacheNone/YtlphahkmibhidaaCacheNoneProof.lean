/- What is proved: CacheNone of porpoiselaw12 answers true for every input, and leaves its arguments as they were; conditions: those of the given row alone. -/
import Derived.Test.YtlphahkmibhidaaKit
import Derived.Test.YtlphahkmibhidaaRan12
import Derived.Test.YtlphahkmibhidaaAwk12
namespace Go.Proofs.Ytlphahkmibhidaa.cacheNone
open Go.ChangeShapes Go.WideShapes Go.ChangeAt Go.RowKit Go.Deep
open Go.ChangeMaps (open_string shut_string)
set_option linter.unusedVariables false

theorem own : ownKnob Try.prog.godebug = none := by kernel_rfl
theorem laidOut : laidOutB Try.prog = true := by kernel_rfl



set_option maxRecDepth 100000 in
set_option maxHeartbeats 1500000 in
theorem walk (w : World) (a0 : Option Addr) (l0 k0 : Nat) (L0 : List (List Value)) (w0 : SliceIn w [.int .i64, .int .i64, .int .i64, .int .i64, .int .i64, .int .i64, .int .i64, .int .i64] 64 a0 l0 k0 L0) (c1 : Array Value) (w1 : Flat [.int .i64, .int .i64, .int .i64, .int .i64, .bool, .int .i64, .int .i64, .int .i64] c1.toList) :
    Calls Try.prog 6 #[.slice a0 l0 k0, .agg c1] w fun e w' => e = .returned (.bool true) ∧ Below w.heap.size w w' := by
  obtain ⟨V, hr, hV, hml⟩ := dds_in w0
  obtain ⟨e, rfl, hek, het⟩ := ent_flat w1
  unfold maxLen at hml
  obtain ⟨g, hg⟩ : ∃ g, w.heap.size = g := ⟨_, rfl⟩
  obtain ⟨S, hS⟩ : ∃ S, CA.run (V.take 100) = S := ⟨_, rfl⟩
  have HSR := Lib.hid hS
  have SZ : Hid (S.size ≤ 1000) := Lib.hid (by have := CA.run_size (V.take 100); rw [hS, List.length_take] at this; omega)
  obtain ⟨fst, hut⟩ := undRT
  have HUT := Lib.hid hut
  obtain ⟨fsk, huk⟩ := undK
  have HUK := Lib.hid huk
  obtain ⟨fsc, huc⟩ := undT
  have HUC := Lib.hid huc
  have HR := Lib.hid hr
  have HF := Lib.hid hV
  have LEN := Lib.hid hr.1
  have HT := Lib.hid het
  have HK0 : Hid (wf3 ⟨0, e.k.b, e.k.c⟩) := Lib.hid ⟨⟨by show (-9223372036854775808 : Int) ≤ 0; decide, by show (0 : Int) ≤ 9223372036854775807; decide⟩, hek.2.1, hek.2.2⟩
  have hzz : ∀ w, (Op.equalIn 10000 44 (.agg (aggV (v3 zero3))) (.agg #[.int .i64 0, .int .i64 0, .int .i64 0])).run Try.prog w = .ok true w := fun w => by
    have := sameT zero3 zero3 wf3_zero wf3_zero w
    rwa [show decide (zero3 = zero3) = true by simp] at this
  clear w0 w1 hr hV hut huk huc hek het hS
  go_enter Try.func6, Try.ntmps6
  go_wp2_with (first
    | (refine wpList_box_agg rfl 41 _ rfl g hg e.row rfl ?_; intro w1 h1 l1 t1; have H1 := Lib.hid h1; have L1 : Hid (Below w.heap.size w w1) := Lib.hid (by rw [hg]; exact l1); clear h1 l1 t1)
    | (go_at_call 9; refine (awake_any w1).mono ?_; rintro r wa ⟨rfl, ba⟩; have EB0 := Lib.hid (kb_below H1.out ba); have LA : Hid (Below w.heap.size w wa) := Lib.hid (L1.out.trans (ba.mono L1.out.size)); clear ba H1 L1))
  go_loopg [6] l0 (fun q v6 wr => ∃ i : Nat, i + q = l0 ∧ v6 = .int .i64 i ∧ (∀ d ∈ V.take i, d.id < 1099511627776) ∧ wa = wr)
  case atStart => exact ⟨0, by omega, rfl, by simp, rfl⟩
  case round =>
    obtain ⟨i, hq, rfl, hid, rfl⟩ := hrel
    have G := Lib.hid hq
    have HID := Lib.hid hid
    clear hq hid
    by_cases hin : i < l0
    · have hi1 : (i : Int) < l0 := by omega
      obtain ⟨blk, off, d, rfl, hd, hrg⟩ := (HR.out.later LA.out).dd (i := i) hin
      obtain ⟨_, q1, _⟩ := dd_cells hrg
      have HD := Lib.hid hd
      clear hd hrg
      by_cases hc : (1099511627776 : Int) ≤ d.id
      · go_wp2
        go_ret
        exact ⟨rfl, by have := LA.out; first | exact this | (rw [hg] at this; exact this)⟩
      · have HC := Lib.hid hc
        go_wp2
        go_roundg (l0 - (i + 1))
        case measure => have := G.out; omega
        case rel =>
          refine ⟨i + 1, by omega, by simp, fun x hx => ?_, rfl⟩
          rw [take_more HD.out] at hx
          rcases List.mem_append.1 hx with hx | hx
          · exact HID.out x hx
          · rw [List.mem_singleton.1 hx]; have := HC.out; omega
    · have hi1 : ¬ (i : Int) < l0 := by omega
      have hall : ∀ d ∈ V, d.id < 1099511627776 := by
        have := HID.out
        rwa [List.take_of_length_le (by rw [LEN.out]; omega)] at this
      have led : S.Led (fun z => z < 1099511627776) := by rw [← HSR.out]; exact CA.Led.run (fun d hd => hall d (List.mem_of_mem_take hd))
      have NJ : Hid (S.joined 1099511627776 = []) := Lib.hid (led.joined (by omega))
      have NS : Hid (S.settle 1099511627776 e.t = S) := Lib.hid (led.settle (by omega) e.t)
      have RT : Hid (wa.rangeAt g 5 (v3 e.t)) := Lib.hid (by have := row_rangeT (vobj_range EB0.out); rwa [Nat.zero_add] at this)
      obtain ⟨_, k1, k2, _⟩ := row_cells (vobj_range EB0.out)
      simp only [Nat.zero_add] at k1 k2
      obtain ⟨ga, hga⟩ : ∃ g, wa.heap.size = g := ⟨_, rfl⟩
      have TKL := Lib.hid hga
      clear hall led
      go_wp2_with (first
        | (refine wpList_load_mid rfl 35 _ rfl g 5 rfl (v3 e.t) _ RT.out HUT.out rfl (sizeRT _) ?_)
        | (refine wpList_alloc_agg rfl 35 rfl ga hga (v3 zero3) (allocRT _) ?_; intro w31 ht32 hl33 hs34; have HZ37 : Hid (w.heap.size ≤ ga) := Lib.hid (by have := LA.out.size; omega); have NE38 : Hid (g ≠ ga) := Lib.hid (by have := heap_lt EB0.out; omega); have EB39 : Hid (w31.heap[g]? = some (vobj 41 e.row)) := Lib.hid (kb_below EB0.out (show Below wa.heap.size wa w31 by rw [hga]; exact hl33)); have LOW40 : Hid (Below w.heap.size w w31) := Lib.hid (LA.out.trans (((show Below wa.heap.size wa w31 by rw [hga]; exact hl33)).mono LA.out.size)); have NT36 := Lib.hid ht32; clear ht32 hl33 hs34 EB0 LA )
        | (refine wpList_store_agg rfl 35 _ _ rfl ga (v3 zero3) (v3 e.t) rfl rfl ?hz rfl (sizeRT _) (v3_ones _) ?_; (case hz => exact NT36.out); intro w41 ht42 hf43 hs44; have EB46 : Hid (w41.heap[g]? = some (vobj 41 e.row)) := Lib.hid ((hf43.block _ (heap_lt EB39.out) NE38.out).trans EB39.out); have LOW47 : Hid (Below w.heap.size w w41) := Lib.hid (LOW40.out.trans (hf43.below LOW40.out.size (fun j hj e => by have e' : j = ga := e; have := HZ37.out; omega))); have TB48 := Lib.hid ht42; clear ht42 hf43 hs44 EB39 LOW40  NT36)
        | (go_at_call 13; refine (ran_any a0 l0 k0 V w41 (HR.out.later LOW47.out) HF.out).mono ?_; rintro r w49 ⟨b, rfl, Fr, ho50⟩; rw [HSR.out] at ho50; have OC51 := Lib.hid (OwC.base ho50 LOW47.out); have EB52 : Hid (w49.heap[g]? = some (vobj 41 e.row)) := Lib.hid (kb_below EB46.out ho50.low); have LOW53 : Hid (Below w.heap.size w w49) := Lib.hid (LOW47.out.trans ((ho50.low).mono LOW47.out.size)); have TB54 : Hid (w49.heap[ga]? = some (vobj 35 (v3 e.t))) := Lib.hid (kb_below TB48.out ho50.low); clear ho50 EB46 LOW47 TB48)
        | (go_at_call 12; have tk := TKL.out; refine (oc_len w Fr b S w49 OC51.out S.E.length rfl).mono ?_; rintro r w55 ⟨rfl, rfl⟩; clear TKL; obtain ⟨gk, hgk⟩ : ∃ g, w49.heap.size = g := ⟨_, rfl⟩)
        | (refine wpList_alloc_agg rfl 47 rfl gk hgk (v3 zero3) (allocK _) ?_; intro w56 ht57 hl58 hs59; have HZ62 : Hid (w.heap.size ≤ gk) := Lib.hid (by have := OC51.out.low.size; omega); have OC60 := Lib.hid (OC51.out.below (show Below w49.heap.size w49 w56 by rw [hgk]; exact hl58)); have NE63 : Hid (ga ≠ gk) := Lib.hid (by have := heap_lt TB54.out; omega); have TB64 : Hid (w56.heap[ga]? = some (vobj 35 (v3 e.t))) := Lib.hid (kb_below TB54.out (show Below w49.heap.size w49 w56 by rw [hgk]; exact hl58)); have NT61 := Lib.hid ht57; clear ht57 hl58 hs59 TB54 OC51)
        | (refine wpList_store_agg rfl 47 _ _ rfl gk (v3 zero3) (v3 ⟨0, e.k.b, e.k.c⟩) rfl rfl ?hz rfl (sizeK _) (v3_ones _) ?_; (case hz => exact NT61.out); intro w65 ht66 hf67 hs68; have OC69 := Lib.hid (OC60.out.beside NT61.out (by decide) hf67 HZ62.out); have TB70 : Hid (w65.heap[ga]? = some (vobj 35 (v3 e.t))) := Lib.hid ((hf67.block _ (heap_lt TB64.out) NE63.out).trans TB64.out); have KB71 := Lib.hid ht66; clear ht66 hf67 hs68 TB64 OC60 NT61)
        | (refine wpList_load_agg rfl 47 _ rfl gk rfl (v3 ⟨0, e.k.b, e.k.c⟩) ?hy _ HUK.out rfl (sizeK _) ?_; (case hy => exact KB71.out))
        | (go_at_call 15; refine (oc_ask w Fr b S w65 OC69.out ⟨0, e.k.b, e.k.c⟩ 1099511627776 HK0.out wfBig SZ.out 1 zero3 S (S.ask0 (k := ⟨0, e.k.b, e.k.c⟩) rfl 1099511627776).1 (S.ask0 (k := ⟨0, e.k.b, e.k.c⟩) rfl 1099511627776).2.1 (S.ask0 (k := ⟨0, e.k.b, e.k.c⟩) rfl 1099511627776).2.2).mono ?_; rintro r w72 ⟨rfl, ho74, hf73⟩; have OC75 := Lib.hid ho74; have TB78 : Hid (w72.heap[ga]? = some (vobj 35 (v3 e.t))) := Lib.hid (foot_kept hf73 TB70.out (by decide)); have KB79 : Hid (w72.heap[gk]? = some (vobj 47 (v3 ⟨0, e.k.b, e.k.c⟩))) := Lib.hid (foot_kept hf73 KB71.out (by decide)); obtain ⟨tg76, hg77⟩ : ∃ g, w72.heap.size = g := ⟨_, rfl⟩; clear ho74 hf73 TB70 KB71 OC69)
        | (refine wpList_alloc_agg rfl 44 rfl tg76 hg77 (v3 zero3) (allocT _) ?_; intro w80 ht81 hl82 hs83; have HZ90 : Hid (w.heap.size ≤ tg76) := Lib.hid (by have := OC75.out.low.size; omega); have OC84 := Lib.hid (OC75.out.below (show Below w72.heap.size w72 w80 by rw [hg77]; exact hl82)); have NE86 : Hid (ga ≠ tg76) := Lib.hid (by have := heap_lt TB78.out; omega); have NE87 : Hid (gk ≠ tg76) := Lib.hid (by have := heap_lt KB79.out; omega); have TB88 : Hid (w80.heap[ga]? = some (vobj 35 (v3 e.t))) := Lib.hid (kb_below TB78.out (show Below w72.heap.size w72 w80 by rw [hg77]; exact hl82)); have KB89 : Hid (w80.heap[gk]? = some (vobj 47 (v3 ⟨0, e.k.b, e.k.c⟩))) := Lib.hid (kb_below KB79.out (show Below w72.heap.size w72 w80 by rw [hg77]; exact hl82)); have NT85 := Lib.hid ht81; clear ht81 hl82 hs83 TB78 KB79 OC75)
        | (refine wpList_store_agg rfl 44 _ _ rfl tg76 (v3 zero3) (v3 zero3) rfl rfl ?hz rfl (sizeT _) (v3_ones _) ?_; (case hz => exact NT85.out); intro w91 ht92 hf93 hs94; have OC95 := Lib.hid (OC84.out.beside NT85.out (by decide) hf93 HZ90.out); have TB96 : Hid (w91.heap[ga]? = some (vobj 35 (v3 e.t))) := Lib.hid ((hf93.block _ (heap_lt TB88.out) NE86.out).trans TB88.out); have KB97 : Hid (w91.heap[gk]? = some (vobj 47 (v3 ⟨0, e.k.b, e.k.c⟩))) := Lib.hid ((hf93.block _ (heap_lt KB89.out) NE87.out).trans KB89.out); clear ht92 hf93 hs94 TB88 KB89 OC84 NT85)
        | (refine wpList_load_agg rfl 47 _ rfl gk rfl (v3 ⟨0, e.k.b, e.k.c⟩) ?hy _ HUK.out rfl (sizeK _) ?_; (case hy => exact KB97.out))
        | (go_at_call 15; refine (oc_ask w Fr b S w91 OC95.out ⟨0, e.k.b, e.k.c⟩ 1099511627777 HK0.out wfBig1 SZ.out 1 zero3 S (S.ask0 (k := ⟨0, e.k.b, e.k.c⟩) rfl 1099511627777).1 (S.ask0 (k := ⟨0, e.k.b, e.k.c⟩) rfl 1099511627777).2.1 (S.ask0 (k := ⟨0, e.k.b, e.k.c⟩) rfl 1099511627777).2.2).mono ?_; rintro r w98 ⟨rfl, ho100, hf99⟩; have OC101 := Lib.hid ho100; have TB104 : Hid (w98.heap[ga]? = some (vobj 35 (v3 e.t))) := Lib.hid (foot_kept hf99 TB96.out (by decide)); have KB105 : Hid (w98.heap[gk]? = some (vobj 47 (v3 ⟨0, e.k.b, e.k.c⟩))) := Lib.hid (foot_kept hf99 KB97.out (by decide)); obtain ⟨tg102, hg103⟩ : ∃ g, w98.heap.size = g := ⟨_, rfl⟩; clear ho100 hf99 TB96 KB97 OC95)
        | (refine wpList_alloc_agg rfl 44 rfl tg102 hg103 (v3 zero3) (allocT _) ?_; intro w106 ht107 hl108 hs109; have HZ116 : Hid (w.heap.size ≤ tg102) := Lib.hid (by have := OC101.out.low.size; omega); have OC110 := Lib.hid (OC101.out.below (show Below w98.heap.size w98 w106 by rw [hg103]; exact hl108)); have NE112 : Hid (ga ≠ tg102) := Lib.hid (by have := heap_lt TB104.out; omega); have NE113 : Hid (gk ≠ tg102) := Lib.hid (by have := heap_lt KB105.out; omega); have TB114 : Hid (w106.heap[ga]? = some (vobj 35 (v3 e.t))) := Lib.hid (kb_below TB104.out (show Below w98.heap.size w98 w106 by rw [hg103]; exact hl108)); have KB115 : Hid (w106.heap[gk]? = some (vobj 47 (v3 ⟨0, e.k.b, e.k.c⟩))) := Lib.hid (kb_below KB105.out (show Below w98.heap.size w98 w106 by rw [hg103]; exact hl108)); have NT111 := Lib.hid ht107; clear ht107 hl108 hs109 TB104 KB105 OC101)
        | (refine wpList_store_agg rfl 44 _ _ rfl tg102 (v3 zero3) (v3 zero3) rfl rfl ?hz rfl (sizeT _) (v3_ones _) ?_; (case hz => exact NT111.out); intro w117 ht118 hf119 hs120; have OC121 := Lib.hid (OC110.out.beside NT111.out (by decide) hf119 HZ116.out); have TB122 : Hid (w117.heap[ga]? = some (vobj 35 (v3 e.t))) := Lib.hid ((hf119.block _ (heap_lt TB114.out) NE112.out).trans TB114.out); have KB123 : Hid (w117.heap[gk]? = some (vobj 47 (v3 ⟨0, e.k.b, e.k.c⟩))) := Lib.hid ((hf119.block _ (heap_lt KB115.out) NE113.out).trans KB115.out); clear ht118 hf119 hs120 TB114 KB115 OC110 NT111)
        | (refine wpList_load_agg rfl 35 _ rfl ga rfl (v3 e.t) ?hy _ HUT.out rfl (sizeRT _) ?_; (case hy => exact TB122.out))
        | (go_at_call 18; refine (told_any e.t w117).mono ?_; rintro r w124 ⟨rfl, hb125⟩; have OC128 := Lib.hid (OC121.out.below hb125); have TB126 : Hid (w124.heap[ga]? = some (vobj 35 (v3 e.t))) := Lib.hid (kb_below TB122.out hb125); have KB127 : Hid (w124.heap[gk]? = some (vobj 47 (v3 ⟨0, e.k.b, e.k.c⟩))) := Lib.hid (kb_below KB123.out hb125); clear hb125 TB122 KB123 OC121)
        | (go_at_call 17; refine (oc_settle w Fr b S w124 OC128.out 1099511627776 e.t wfBig HT.out [] S NJ.out NS.out).mono ?_; rintro r w129 ⟨A134, n135, c136, rfl, hr132, ho131, hf130⟩; obtain ⟨F137, hF138, ho131⟩ : ∃ F2 : Nat → Prop, (∀ j, F2 j → (show Nat → Prop from Fr) j ∧ (Value.slice A134 n135 c136).ownBlock ≠ some j) ∧ OwC w w129 F2 b S := ⟨_, fun _ h => h, ho131⟩; have ND139 : Hid (∀ j, F137 j → (Value.slice A134 n135 c136).ownBlock ≠ some j) := Lib.hid (fun j hj => (hF138 j hj).2); have TB141 : Hid (w129.heap[ga]? = some (vobj 35 (v3 e.t))) := Lib.hid (foot_kept hf130 TB126.out (by decide)); have KB142 : Hid (w129.heap[gk]? = some (vobj 47 (v3 ⟨0, e.k.b, e.k.c⟩))) := Lib.hid (foot_kept hf130 KB127.out (by decide)); have OC133 := Lib.hid ho131; have RW140 := Lib.hid hr132; clear ho131 hf130 hr132 hF138 TB126 KB127 OC128; obtain rfl : 0 = n135 := RW140.out.row.2.1)
        | (refine wpList_load_agg rfl 47 _ rfl gk rfl (v3 ⟨0, e.k.b, e.k.c⟩) ?hy _ HUK.out rfl (sizeK _) ?_; (case hy => exact KB142.out))
        | (go_at_call 15; refine (oc_ask w F137 b S w129 OC133.out ⟨0, e.k.b, e.k.c⟩ 1099511627778 HK0.out wfBig2 SZ.out 1 zero3 S (S.ask0 (k := ⟨0, e.k.b, e.k.c⟩) rfl 1099511627778).1 (S.ask0 (k := ⟨0, e.k.b, e.k.c⟩) rfl 1099511627778).2.1 (S.ask0 (k := ⟨0, e.k.b, e.k.c⟩) rfl 1099511627778).2.2).mono ?_; rintro r w143 ⟨rfl, ho145, hf144⟩; have OC146 := Lib.hid ho145; have TB149 : Hid (w143.heap[ga]? = some (vobj 35 (v3 e.t))) := Lib.hid (foot_kept hf144 TB141.out (by decide)); have KB150 : Hid (w143.heap[gk]? = some (vobj 47 (v3 ⟨0, e.k.b, e.k.c⟩))) := Lib.hid (foot_kept hf144 KB142.out (by decide)); obtain ⟨tg147, hg148⟩ : ∃ g, w143.heap.size = g := ⟨_, rfl⟩; clear ho145 hf144 TB141 KB142 OC133)
        | (refine wpList_alloc_agg rfl 44 rfl tg147 hg148 (v3 zero3) (allocT _) ?_; intro w151 ht152 hl153 hs154; have HZ161 : Hid (w.heap.size ≤ tg147) := Lib.hid (by have := OC146.out.low.size; omega); have OC155 := Lib.hid (OC146.out.below (show Below w143.heap.size w143 w151 by rw [hg148]; exact hl153)); have NE157 : Hid (ga ≠ tg147) := Lib.hid (by have := heap_lt TB149.out; omega); have NE158 : Hid (gk ≠ tg147) := Lib.hid (by have := heap_lt KB150.out; omega); have TB159 : Hid (w151.heap[ga]? = some (vobj 35 (v3 e.t))) := Lib.hid (kb_below TB149.out (show Below w143.heap.size w143 w151 by rw [hg148]; exact hl153)); have KB160 : Hid (w151.heap[gk]? = some (vobj 47 (v3 ⟨0, e.k.b, e.k.c⟩))) := Lib.hid (kb_below KB150.out (show Below w143.heap.size w143 w151 by rw [hg148]; exact hl153)); have NT156 := Lib.hid ht152; clear ht152 hl153 hs154 TB149 KB150 OC146)
        | (refine wpList_store_agg rfl 44 _ _ rfl tg147 (v3 zero3) (v3 zero3) rfl rfl ?hz rfl (sizeT _) (v3_ones _) ?_; (case hz => exact NT156.out); intro w162 ht163 hf164 hs165; have OC166 := Lib.hid (OC155.out.beside NT156.out (by decide) hf164 HZ161.out); have TB167 : Hid (w162.heap[ga]? = some (vobj 35 (v3 e.t))) := Lib.hid ((hf164.block _ (heap_lt TB159.out) NE157.out).trans TB159.out); have KB168 : Hid (w162.heap[gk]? = some (vobj 47 (v3 ⟨0, e.k.b, e.k.c⟩))) := Lib.hid ((hf164.block _ (heap_lt KB160.out) NE158.out).trans KB160.out); have ZB169 := Lib.hid ht163; clear ht163 hf164 hs165 TB159 KB160 OC155 NT156)
        | (refine wpList_load_aggG rfl 44 _ rfl tg147 rfl (v3 zero3) ?hy _ HUC.out rfl (sizeT _) ?_; (case hy => exact ZB169.out))
        | (go_at_call 14; refine (oc_close w F137 b S w162 OC166.out 0 SZ.out 0 (S.close 0) (OC166.out.ok.closed0) rfl).mono ?_; rintro r w171 ⟨rfl, ho173, hf172⟩; have OC174 := Lib.hid ho173; have TB175 : Hid (w171.heap[ga]? = some (vobj 35 (v3 e.t))) := Lib.hid (foot_kept hf172 TB167.out (by decide)); have KB176 : Hid (w171.heap[gk]? = some (vobj 47 (v3 ⟨0, e.k.b, e.k.c⟩))) := Lib.hid (foot_kept hf172 KB168.out (by decide)); have ZB177 : Hid (w171.heap[tg147]? = some (vobj 44 (v3 zero3))) := Lib.hid (foot_kept hf172 ZB169.out (by decide)); clear ho173 hf172 TB167 KB168 ZB169 OC166)
        | (go_at_call 12; refine (oc_len w F137 b S w162 OC166.out S.E.length rfl).mono ?_; rintro r w170 ⟨rfl, rfl⟩))
      go_ret
      exact ⟨rfl, by have := OC174.out.low; first | exact this | (rw [hg] at this; exact this)⟩

set_option maxRecDepth 100000 in
theorem lifted (os : Os) (started : os.Started) (H : Type) (enc : TypeId × Value → H) :
    ReturnsInHanded {} Try.checked os 6 .any (Rows.cacheNoneSpec.pre6 enc Try.prog Try.f6 Rows.cacheNoneRow.domain false) (Rows.cacheNoneSpec.post enc Try.prog Try.f6 false true false false) := by
  refine returnsInHanded_of_change_sized (C := Try.checked) own started (by kernel_rfl) Try.func6
    (ChangeSpec.witness6 (enc := enc) (C := Try.checked) false ⟨#[], #[.slice none 0 0, .agg #[.int .i64 0, .int .i64 0, .int .i64 0, .int .i64 0, .bool false, .int .i64 0, .int .i64 0, .int .i64 0]], []⟩ 8 (by kernel_rfl) (by kernel_rfl) (by kernel_rfl) (by kernel_rfl)) ?_
  intro W base args ds gs before hval0 hW hcnd hsz0 _
  have hval : ∀ (j : Nat) t v, Try.f6.params[j]? = some t → args[j]? = some v → Value.okWide Try.prog W .any base t v := hval0
  have hsz : (DataW.weightsEach Try.prog (Try.f6.params.toList ++ Rows.cacheNoneSpec.plain.varTypes Try.prog) (ds ++ gs)).all (· ≤ reachBytes) = true := hsz0
  have hW' := hW
  obtain ⟨p, q, hA0, hV, rfl, hfz, hnd⟩ := hW
  have hA : DataW.TrodAll enc Try.prog W 0 (fun _ => true) true Try.f6.params.toList args.toList ds p := hA0
  rw [Try.params6] at hA hval hsz
  have hAk := hA
  obtain ⟨v0, vs0, d0, ds0, p0, q0, hargs, rfl, rfl, h0, r0⟩ := trodAll_cons hA
  obtain ⟨v1, vs1, d1, ds1, p1, q1, rfl, rfl, rfl, h1, r1⟩ := trodAll_cons r0
  obtain ⟨rfl, rfl, rfl⟩ := trodAll_nil r1
  obtain rfl : args = #[v0, v1] := by cases args; simp_all
  obtain ⟨rfl, rfl⟩ := trodVars_none hV
  obtain ⟨a0, l0, k0, L0, rfl, w0⟩ := open_slice_flat (ks := [.int .i64, .int .i64, .int .i64, .int .i64, .int .i64, .int .i64, .int .i64, .int .i64]) (bytes := 64) 8 Try.underlying22 (by kernel_rfl) (by kernel_rfl) (by decide) (by kernel_rfl) (hval 0 22 v0 rfl rfl) h0 (fun elems rest hd => by subst hd; exact sized_slice hsz (j := 0) (t := 22) (e := 37) rfl rfl Try.underlying22)
  obtain ⟨c1, rfl, w1⟩ := open_flat (ks := [.int .i64, .int .i64, .int .i64, .int .i64, .bool, .int .i64, .int .i64, .int .i64]) 8 (by kernel_rfl) (by kernel_rfl) (hval 1 41 v1 rfl rfl) h1
  clear hA0 hval0 hsz0
  refine (walk W a0 l0 k0 L0 w0 c1 w1).mono fun e W' ⟨he, bel⟩ => ?_
  subst he
  exact ⟨_, rfl, _, _, _, [], _, [], hW', trodAll_mk1 (shut_bool Try.underlying4 _), trodAll_below laidOut bel _ _ _ _ (by kernel_rfl) hAk, rfl, bel.frame _, fun h => by cases h⟩

theorem over : Rows.cacheNoneRow.holds Try.pinned (OpenSpec.ofChange Rows.cacheNoneSpec) :=
  OpenClaim.holds_of_wide 6 Try.f6 rfl rfl rfl rfl rfl rfl rfl ⟨rfl, rfl, rfl, rfl, rfl⟩ rfl rfl rfl rfl rfl (by kernel_rfl) Try.func6 (by kernel_rfl)
    (of_decide_eq_true (by kernel_rfl)) (by unfold Func.isWrapper; first | (rw [if_pos (by decide +kernel)]; kernel_rfl) | (rw [if_neg (by decide +kernel)]; exact ⟨rfl, rfl⟩))
    (fun os started H enc _ => lifted os started H enc)

theorem proved : Rows.CacheNoneSaid := over
#print axioms proved
end Go.Proofs.Ytlphahkmibhidaa.cacheNone
