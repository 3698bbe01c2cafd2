/- What is proved: CacheOne of porpoiselaw12 answers true for every input, and leaves its arguments as they were; conditions: those of the given row alone. -/
import Derived.Test.YtlphahkmibhidaaKit
import Derived.Test.YtlphahkmibhidaaOne12
import Derived.Test.YtlphahkmibhidaaAwk12
namespace Go.Proofs.Ytlphahkmibhidaa.cacheOne
open Go.ChangeShapes Go.WideShapes Go.ChangeAt Go.RowKit Go.Deep
open Go.ChangeMaps (open_string shut_string)
set_option linter.unusedVariables false

theorem own : ownKnob Try.prog.godebug = none := by kernel_rfl
theorem laidOut : laidOutB Try.prog = true := by kernel_rfl



set_option maxRecDepth 100000 in
set_option maxHeartbeats 3000000 in
theorem walk (w : World) (a0 : Option Addr) (l0 k0 : Nat) (L0 : List (List Value)) (w0 : SliceIn w [.int .i64, .int .i64, .int .i64, .int .i64, .int .i64, .int .i64, .int .i64, .int .i64] 64 a0 l0 k0 L0) (c1 : Array Value) (w1 : Flat [.int .i64, .int .i64, .int .i64, .int .i64, .bool, .int .i64, .int .i64, .int .i64] c1.toList) (a2 : Int) (w2 : (Lit.int .u8 a2).wf = true) :
    Calls Try.prog 4 #[.slice a0 l0 k0, .agg c1, .int .u8 a2] w fun e w' => e = .returned (.bool true) ∧ Below w.heap.size w w' := by
  obtain ⟨V, hr, hV, hml⟩ := dds_in w0
  obtain ⟨e, rfl, hek, het⟩ := ent_flat w1
  unfold maxLen at hml
  have hu8 : 0 ≤ a2 ∧ a2 ≤ 255 := by have := bounds_u8 w2; omega
  obtain ⟨m, hm⟩ : ∃ m : Nat, a2 % 9 = m := ⟨(a2 % 9).toNat, by omega⟩
  have hm8 : m ≤ 8 := by omega
  obtain ⟨g, hg⟩ : ∃ g, w.heap.size = g := ⟨_, rfl⟩
  obtain ⟨S, hS⟩ : ∃ S, CA.run (V.take 100) = S := ⟨_, rfl⟩
  have HSR := Lib.hid hS
  have SZ : Hid (S.size ≤ 100) := Lib.hid (by have := CA.run_size (V.take 100); rw [hS, List.length_take] at this; omega)
  obtain ⟨fst, hut⟩ := undRT
  have HUT := Lib.hid hut
  obtain ⟨fsk, huk⟩ := undRK
  have HUK := Lib.hid huk
  obtain ⟨fsc, huc⟩ := undT
  have HUC := Lib.hid huc
  have HR := Lib.hid hr
  have HF := Lib.hid hV
  have LEN := Lib.hid hr.1
  have HT := Lib.hid het
  have HK := Lib.hid hek
  clear w0 w1 w2 hr hV hut huk huc hek het hS
  go_enter Try.func4, Try.ntmps4
  go_wp2_with (first
    | (refine wpList_box_agg rfl 41 _ rfl g hg e.row rfl ?_; intro w1 h1 l1 t1; have H1 := Lib.hid h1; have L1 : Hid (Below w.heap.size w w1) := Lib.hid (by rw [hg]; exact l1); clear h1 l1 t1)
    | (go_at_call 9; refine (awake_any w1).mono ?_; rintro r wa ⟨rfl, ba⟩; have EB0 := Lib.hid (kb_below H1.out ba); have LA : Hid (Below w.heap.size w wa) := Lib.hid (L1.out.trans (ba.mono L1.out.size)); have RK : Hid (wa.rangeAt g 0 (v3 e.k)) := Lib.hid (row_rangeK (vobj_range EB0.out)); obtain ⟨ga, hga⟩ : ∃ g, wa.heap.size = g := ⟨_, rfl⟩; clear ba H1 L1)
    | (refine wpList_load_mid rfl 33 _ rfl g 0 rfl (v3 e.k) _ RK.out HUK.out rfl (sizeRK _) ?_)
    | (refine wpList_alloc_agg rfl 33 rfl ga hga (v3 zero3) (allocRK _) ?_; intro w31 ht32 hl33 hs34; have HZ37 : Hid (w.heap.size ≤ ga) := Lib.hid (by have := LA.out.size; omega); have NE38 : Hid (g ≠ ga) := Lib.hid (by have := heap_lt EB0.out; omega); have EB39 : Hid (w31.heap[g]? = some (vobj 41 e.row)) := Lib.hid (kb_below EB0.out (show Below wa.heap.size wa w31 by rw [hga]; exact hl33)); have LOW40 : Hid (Below w.heap.size w w31) := Lib.hid (LA.out.trans (((show Below wa.heap.size wa w31 by rw [hga]; exact hl33)).mono LA.out.size)); have NT36 := Lib.hid ht32; clear ht32 hl33 hs34 EB0 LA )
    | (refine wpList_store_agg rfl 33 _ _ rfl ga (v3 zero3) (v3 e.k) rfl rfl ?hz rfl (sizeRK _) (v3_ones _) ?_; (case hz => exact NT36.out); intro w41 ht42 hf43 hs44; have EB46 : Hid (w41.heap[g]? = some (vobj 41 e.row)) := Lib.hid ((hf43.block _ (heap_lt EB39.out) NE38.out).trans EB39.out); have LOW47 : Hid (Below w.heap.size w w41) := Lib.hid (LOW40.out.trans (hf43.below LOW40.out.size (fun j hj e => by have e' : j = ga := e; have := HZ37.out; omega))); have KB48 := Lib.hid ht42; clear ht42 hf43 hs44 EB39 LOW40  NT36; have RT : Hid (w41.rangeAt g 5 (v3 e.t)) := Lib.hid (by have := row_rangeT (vobj_range EB46.out); rwa [Nat.zero_add] at this); obtain ⟨gb, hgb⟩ : ∃ g, w41.heap.size = g := ⟨_, rfl⟩)
    | (refine wpList_load_mid rfl 35 _ rfl g 5 rfl (v3 e.t) _ RT.out HUT.out rfl (sizeRT _) ?_)
    | (refine wpList_alloc_agg rfl 35 rfl gb hgb (v3 zero3) (allocRT _) ?_; intro w49 ht50 hl51 hs52; have HZ55 : Hid (w.heap.size ≤ gb) := Lib.hid (by have := LOW47.out.size; omega); have NE56 : Hid (g ≠ gb) := Lib.hid (by have := heap_lt EB46.out; omega); have NE57 : Hid (ga ≠ gb) := Lib.hid (by have := heap_lt KB48.out; omega); have EB58 : Hid (w49.heap[g]? = some (vobj 41 e.row)) := Lib.hid (kb_below EB46.out (show Below w41.heap.size w41 w49 by rw [hgb]; exact hl51)); have LOW59 : Hid (Below w.heap.size w w49) := Lib.hid (LOW47.out.trans (((show Below w41.heap.size w41 w49 by rw [hgb]; exact hl51)).mono LOW47.out.size)); have KB60 : Hid (w49.heap[ga]? = some (vobj 33 (v3 e.k))) := Lib.hid (kb_below KB48.out (show Below w41.heap.size w41 w49 by rw [hgb]; exact hl51)); have NT54 := Lib.hid ht50; clear ht50 hl51 hs52 EB46 LOW47 KB48 )
    | (refine wpList_store_agg rfl 35 _ _ rfl gb (v3 zero3) (v3 e.t) rfl rfl ?hz rfl (sizeRT _) (v3_ones _) ?_; (case hz => exact NT54.out); intro w61 ht62 hf63 hs64; have EB66 : Hid (w61.heap[g]? = some (vobj 41 e.row)) := Lib.hid ((hf63.block _ (heap_lt EB58.out) NE56.out).trans EB58.out); have LOW67 : Hid (Below w.heap.size w w61) := Lib.hid (LOW59.out.trans (hf63.below LOW59.out.size (fun j hj e => by have e' : j = gb := e; have := HZ55.out; omega))); have KB68 : Hid (w61.heap[ga]? = some (vobj 33 (v3 e.k))) := Lib.hid ((hf63.block _ (heap_lt KB60.out) NE57.out).trans KB60.out); have TB69 := Lib.hid ht62; clear ht62 hf63 hs64 EB58 LOW59 KB60  NT54)
    | (go_at_call 13; refine (ran_any a0 l0 k0 V w61 (HR.out.later LOW67.out) HF.out).mono ?_; rintro r w70 ⟨b, rfl, Fr, ho71⟩; rw [HSR.out] at ho71; have OC72 := Lib.hid (OwC.base ho71 LOW67.out); have EB73 : Hid (w70.heap[g]? = some (vobj 41 e.row)) := Lib.hid (kb_below EB66.out ho71.low); have LOW74 : Hid (Below w.heap.size w w70) := Lib.hid (LOW67.out.trans ((ho71.low).mono LOW67.out.size)); have KB75 : Hid (w70.heap[ga]? = some (vobj 33 (v3 e.k))) := Lib.hid (kb_below KB68.out ho71.low); have TB76 : Hid (w70.heap[gb]? = some (vobj 35 (v3 e.t))) := Lib.hid (kb_below TB69.out ho71.low); clear ho71 EB66 LOW67 KB68 TB69))
  go_loopg [11] l0 (fun q v11 wr => ∃ i : Nat, i + q = l0 ∧ v11 = .int .i64 i ∧ (∀ d ∈ V.take i, d.id < 1099511627776) ∧ w70 = wr)
  case atStart => exact ⟨0, by omega, rfl, by simp, rfl⟩
  case round =>
    obtain ⟨i, hq, rfl, hid, rfl⟩ := hrel
    have G := Lib.hid hq
    have HID := Lib.hid hid
    clear hq hid
    by_cases hin : i < l0
    · have hi1 : (i : Int) < l0 := by omega
      obtain ⟨blk, off, d, rfl, hd, hrg⟩ := (HR.out.later OC72.out.low).dd (i := i) hin
      obtain ⟨_, q1, _⟩ := dd_cells hrg
      have HD := Lib.hid hd
      clear hd hrg
      by_cases hc : (1099511627776 : Int) ≤ d.id
      · go_wp2
        go_ret
        exact ⟨rfl, by have := OC72.out.low; first | exact this | (rw [hg] at this; exact this)⟩
      · have HC := Lib.hid hc
        go_wp2
        go_roundg (l0 - (i + 1))
        case measure => have := G.out; omega
        case rel =>
          refine ⟨i + 1, by omega, by simp, fun x hx => ?_, rfl⟩
          rw [take_more HD.out] at hx
          rcases List.mem_append.1 hx with hx | hx
          · exact HID.out x hx
          · rw [List.mem_singleton.1 hx]; have := HC.out; omega
    · have hi1 : ¬ (i : Int) < l0 := by omega
      have hall : ∀ d ∈ V, d.id < 1099511627776 := by
        have := HID.out
        rwa [List.take_of_length_le (by rw [LEN.out]; omega)] at this
      have LED : Hid (S.Led (fun z => z < CA.big)) := Lib.hid (by rw [← HSR.out]; exact CA.Led.run (fun d hd => hall d (List.mem_of_mem_take hd)))
      obtain ⟨ka, _, _⟩ := cells3 KB75.out
      clear hall
      by_cases h0 : e.k.a = 0
      · have hb0 : (e.k.a == 0) = true := by simp [h0]
        clear h0
        go_wp2
        go_ret
        exact ⟨rfl, by have := OC72.out.low; first | exact this | (rw [hg] at this; exact this)⟩
      · have hb0 : (e.k.a == 0) = false := by simp [h0]
        have H0 := Lib.hid h0
        clear h0
        go_wp2_with (first
        | (go_at_call 14; refine (oc_close w Fr b S w70 OC72.out e.k.a (S.one_size e.k e.t SZ.out 0 (by omega)).2.2.2 (S.closed e.k.a) (S.close e.k.a) rfl rfl).mono ?_; rintro r w201 ⟨rfl, ho203, hf202⟩; have OC204 := Lib.hid ho203; have KB205 : Hid (w201.heap[ga]? = some (vobj 33 (v3 e.k))) := Lib.hid (foot_kept hf202 KB75.out (by decide)); have TB206 : Hid (w201.heap[gb]? = some (vobj 35 (v3 e.t))) := Lib.hid (foot_kept hf202 TB76.out (by decide)); clear ho203 hf202 KB75 TB76 OC72)
        | (refine wpList_load_agg rfl 33 _ rfl ga rfl (v3 e.k) ?hy _ HUK.out rfl (sizeRK _) ?_; (case hy => exact KB205.out))
        | (go_at_call 16; refine (key_any e.k w201).mono ?_; rintro r w207 ⟨rfl, hb208⟩; have OC211 := Lib.hid (OC204.out.below hb208); have KB209 : Hid (w207.heap[ga]? = some (vobj 33 (v3 e.k))) := Lib.hid (kb_below KB205.out hb208); have TB210 : Hid (w207.heap[gb]? = some (vobj 35 (v3 e.t))) := Lib.hid (kb_below TB206.out hb208); clear hb208 KB205 TB206 OC204)
        | (go_at_call 15; refine (oc_ask w Fr b (S.close e.k.a) w207 OC211.out e.k 1099511627776 HK.out wfBig (S.one_size e.k e.t SZ.out 0 (by omega)).2.2.1 1 zero3 (S.onest e.k 0) (S.one_lead e.k H0.out).1 (S.one_lead e.k H0.out).2.1 (S.one_lead e.k H0.out).2.2).mono ?_; rintro r w212 ⟨rfl, ho214, hf213⟩; have OC215 := Lib.hid ho214; have KB218 : Hid (w212.heap[ga]? = some (vobj 33 (v3 e.k))) := Lib.hid (foot_kept hf213 KB209.out (by decide)); have TB219 : Hid (w212.heap[gb]? = some (vobj 35 (v3 e.t))) := Lib.hid (foot_kept hf213 TB210.out (by decide)); obtain ⟨tg216, hg217⟩ : ∃ g, w212.heap.size = g := ⟨_, rfl⟩; clear ho214 hf213 KB209 TB210 OC211)
        | (refine wpList_alloc_agg rfl 44 rfl tg216 hg217 (v3 zero3) (allocT _) ?_; intro w220 ht221 hl222 hs223; have HZ230 : Hid (w.heap.size ≤ tg216) := Lib.hid (by have := OC215.out.low.size; omega); have OC224 := Lib.hid (OC215.out.below (show Below w212.heap.size w212 w220 by rw [hg217]; exact hl222)); have NE226 : Hid (ga ≠ tg216) := Lib.hid (by have := heap_lt KB218.out; omega); have NE227 : Hid (gb ≠ tg216) := Lib.hid (by have := heap_lt TB219.out; omega); have KB228 : Hid (w220.heap[ga]? = some (vobj 33 (v3 e.k))) := Lib.hid (kb_below KB218.out (show Below w212.heap.size w212 w220 by rw [hg217]; exact hl222)); have TB229 : Hid (w220.heap[gb]? = some (vobj 35 (v3 e.t))) := Lib.hid (kb_below TB219.out (show Below w212.heap.size w212 w220 by rw [hg217]; exact hl222)); have NT225 := Lib.hid ht221; clear ht221 hl222 hs223 KB218 TB219 OC215)
        | (refine wpList_store_agg rfl 44 _ _ rfl tg216 (v3 zero3) (v3 zero3) rfl rfl ?hz rfl (sizeT _) (v3_ones _) ?_; (case hz => exact NT225.out); intro w231 ht232 hf233 hs234; have OC235 := Lib.hid (OC224.out.beside NT225.out (by decide) hf233 HZ230.out); have KB236 : Hid (w231.heap[ga]? = some (vobj 33 (v3 e.k))) := Lib.hid ((hf233.block _ (heap_lt KB228.out) NE226.out).trans KB228.out); have TB237 : Hid (w231.heap[gb]? = some (vobj 35 (v3 e.t))) := Lib.hid ((hf233.block _ (heap_lt TB229.out) NE227.out).trans TB229.out); clear ht232 hf233 hs234 KB228 TB229 OC224 NT225))
        clear ka
        go_loopg [14, 15] m (fun q v14 v15 wr => ∃ (i : Nat) (A : Option Addr) (n c : Nat) (F : Nat → Prop), i + q = m ∧ v14 = .slice A n c ∧ v15 = .int .i64 i ∧ Ints wr w.heap.size (.slice A n c) (CA.wants i) ∧ OwC w wr F b (S.onest e.k i) ∧ (∀ j, F j → (Value.slice A n c).ownBlock ≠ some j) ∧ wr.heap[ga]? = some (vobj 33 (v3 e.k)) ∧ wr.heap[gb]? = some (vobj 35 (v3 e.t)))
        case atStart => exact ⟨0, none, 0, 0, _, by omega, rfl, rfl, Ints.nil _ _, OC235.out, (fun j _ h => by cases h), KB236.out, TB237.out⟩
        case round =>
          obtain ⟨i, A, n, c, F, hq2, rfl, rfl, hw, ho, hnd, hkb, htb⟩ := hrel
          have G2 := Lib.hid hq2
          have WR := Lib.hid hw
          have OW := Lib.hid ho
          have NDW := Lib.hid hnd
          have KR := Lib.hid hkb
          have TR := Lib.hid htb
          clear hq2 hw ho hnd hkb htb OC235 KB236 TB237
          by_cases him : i < m
          · have him' : (i : Int) < m := by omega
            have hi8 : (i : Int) ≤ 8 := by omega
            have hmm : ¬ (m : Int) ≤ i := by omega
            have WFI : Hid (wf64 (2199023255552 + (i : Int))) := Lib.hid ⟨by omega, by omega⟩
            go_wp2_with (first
            | (refine wpList_load_agg rfl 33 _ rfl ga rfl (v3 e.k) ?hy _ HUK.out rfl (sizeRK _) ?_; (case hy => exact KR.out))
            | (go_at_call 16; refine (key_any e.k wr).mono ?_; rintro r w301 ⟨rfl, hb302⟩; have OC306 := Lib.hid (OW.out.below hb302); have KB303 : Hid (w301.heap[ga]? = some (vobj 33 (v3 e.k))) := Lib.hid (kb_below KR.out hb302); have TB304 : Hid (w301.heap[gb]? = some (vobj 35 (v3 e.t))) := Lib.hid (kb_below TR.out hb302); have WN305 : Hid (Ints w301 w.heap.size (.slice A n c) (CA.wants i)) := Lib.hid (WR.out.below hb302); clear hb302 KR TR WR OW)
            | (go_at_call 15; refine (oc_ask w F b (S.onest e.k i) w301 OC306.out e.k (2199023255552 + (i : Int)) HK.out WFI.out (S.one_size e.k e.t SZ.out i (by omega)).1 2 zero3 (S.onest e.k (i + 1)) (S.one_join e.k H0.out i).1 (S.one_join e.k H0.out i).2.1 (S.one_join e.k H0.out i).2.2).mono ?_; rintro r w307 ⟨rfl, ho309, hf308⟩; have OC310 := Lib.hid ho309; have KB313 : Hid (w307.heap[ga]? = some (vobj 33 (v3 e.k))) := Lib.hid (foot_kept hf308 KB303.out (by decide)); have TB314 : Hid (w307.heap[gb]? = some (vobj 35 (v3 e.t))) := Lib.hid (foot_kept hf308 TB304.out (by decide)); have WN315 : Hid (Ints w307 w.heap.size (.slice A n c) (CA.wants i)) := Lib.hid (ints_foot WN305.out hf308 NDW.out); obtain ⟨tg311, hg312⟩ : ∃ g, w307.heap.size = g := ⟨_, rfl⟩; clear ho309 hf308 KB303 TB304 WN305 OC306)
            | (refine wpList_alloc_agg rfl 44 rfl tg311 hg312 (v3 zero3) (allocT _) ?_; intro w316 ht317 hl318 hs319; have HZ327 : Hid (w.heap.size ≤ tg311) := Lib.hid (by have := OC310.out.low.size; omega); have OC320 := Lib.hid (OC310.out.below (show Below w307.heap.size w307 w316 by rw [hg312]; exact hl318)); have NE322 : Hid (ga ≠ tg311) := Lib.hid (by have := heap_lt KB313.out; omega); have NE323 : Hid (gb ≠ tg311) := Lib.hid (by have := heap_lt TB314.out; omega); have KB324 : Hid (w316.heap[ga]? = some (vobj 33 (v3 e.k))) := Lib.hid (kb_below KB313.out (show Below w307.heap.size w307 w316 by rw [hg312]; exact hl318)); have TB325 : Hid (w316.heap[gb]? = some (vobj 35 (v3 e.t))) := Lib.hid (kb_below TB314.out (show Below w307.heap.size w307 w316 by rw [hg312]; exact hl318)); have WN326 : Hid (Ints w316 w.heap.size (.slice A n c) (CA.wants i)) := Lib.hid (WN315.out.below (show Below w307.heap.size w307 w316 by rw [hg312]; exact hl318)); have NT321 := Lib.hid ht317; clear ht317 hl318 hs319 KB313 TB314 WN315 OC310)
            | (refine wpList_store_agg rfl 44 _ _ rfl tg311 (v3 zero3) (v3 zero3) rfl rfl ?hz rfl (sizeT _) (v3_ones _) ?_; (case hz => exact NT321.out); intro w328 ht329 hf330 hs331; have OC332 := Lib.hid (OC320.out.beside NT321.out (by decide) hf330 HZ327.out); have KB333 : Hid (w328.heap[ga]? = some (vobj 33 (v3 e.k))) := Lib.hid ((hf330.block _ (heap_lt KB324.out) NE322.out).trans KB324.out); have TB334 : Hid (w328.heap[gb]? = some (vobj 35 (v3 e.t))) := Lib.hid ((hf330.block _ (heap_lt TB325.out) NE323.out).trans TB325.out); have WN335 : Hid (Ints w328 w.heap.size (.slice A n c) (CA.wants i)) := Lib.hid (WN326.out.frm hf330 (one_typ NT321.out (by decide))); clear ht329 hf330 hs331 KB324 TB325 WN326 OC320 NT321)
            | (at_builtin; refine wpList_app (base := w.heap.size) rfl (.tmp 85) (.tmp 88) rfl rfl rfl (WN335.out.below (below_alloc _ _)) (row_one w328 _ WFI.out) rfl (by rw [CA.wants_len]; omega) (by have := OC332.out.low.size; simp; omega) ?_; intro v' w' own' gr' ob'; obtain ⟨A', n', c', hv', _, _, _, _⟩ := own_row' own'; subst hv'; obtain ⟨F', o', nd'⟩ := oc_grow (OC332.out.below (below_alloc w328 _)) gr' own' NDW.out (fun g hg => WN335.out.low g hg) ob'; have OE := Lib.hid o'; have NDE := Lib.hid nd'; have WE : Hid (Ints w' w.heap.size (.slice A' n' c') (CA.wants (i + 1))) := Lib.hid (by rw [CA.wants_next]; exact own'); have tf := grown_int (WN335.out.below (below_alloc _ _)) gr'; have KE := Lib.hid (typ_kept tf (kb_alloc KB333.out _) (by decide)); have TE := Lib.hid (typ_kept tf (kb_alloc TB334.out _) (by decide)); clear o' nd' own' gr' ob' tf))
            go_roundg (m - (i + 1))
            case measure => have := G2.out; omega
            case rel => exact ⟨i + 1, A', n', c', F', by omega, rfl, by simp, WE.out, OE.out, NDE.out, KE.out, TE.out⟩
          · have him' : ¬ (i : Int) < m := by omega
            obtain rfl : i = m := by have := G2.out; omega
            go_wp2_with (first
          | (refine wpList_load_agg rfl 35 _ rfl gb rfl (v3 e.t) ?hy _ HUT.out rfl (sizeRT _) ?_; (case hy => exact TR.out))
          | (go_at_call 18; refine (told_any e.t wr).mono ?_; rintro r w401 ⟨rfl, hb402⟩; have OC406 := Lib.hid (OW.out.below hb402); have KB403 : Hid (w401.heap[ga]? = some (vobj 33 (v3 e.k))) := Lib.hid (kb_below KR.out hb402); have TB404 : Hid (w401.heap[gb]? = some (vobj 35 (v3 e.t))) := Lib.hid (kb_below TR.out hb402); have WN405 : Hid (Ints w401 w.heap.size (.slice A n c) (CA.wants i)) := Lib.hid (WR.out.below hb402); clear hb402 KR TR WR OW)
          | (go_at_call 17; refine (oc_settle w F b (S.onest e.k i) w401 OC406.out 1099511627776 e.t wfBig HT.out (CA.wants i) (S.oneset e.k e.t i) (S.one_joined e.k e.t LED.out i).1 (S.one_joined e.k e.t LED.out i).2.1).mono ?_; rintro r w407 ⟨A412, n413, c414, rfl, hr410, ho409, hf408⟩; obtain ⟨F415, hF416, ho409⟩ : ∃ F2 : Nat → Prop, (∀ j, F2 j → (show Nat → Prop from F) j ∧ (Value.slice A412 n413 c414).ownBlock ≠ some j) ∧ OwC w w407 F2 b (S.oneset e.k e.t i) := ⟨_, fun _ h => h, ho409⟩; have ND417 : Hid (∀ j, F415 j → (Value.slice A412 n413 c414).ownBlock ≠ some j) := Lib.hid (fun j hj => (hF416 j hj).2); have ND422 : Hid (∀ j, F415 j → (Value.slice A n c).ownBlock ≠ some j) := Lib.hid (fun j hj => NDW.out j (hF416 j hj).1); have KB419 : Hid (w407.heap[ga]? = some (vobj 33 (v3 e.k))) := Lib.hid (foot_kept hf408 KB403.out (by decide)); have TB420 : Hid (w407.heap[gb]? = some (vobj 35 (v3 e.t))) := Lib.hid (foot_kept hf408 TB404.out (by decide)); have WN421 : Hid (Ints w407 w.heap.size (.slice A n c) (CA.wants i)) := Lib.hid (ints_foot WN405.out hf408 NDW.out); have OC411 := Lib.hid ho409; have RW418 := Lib.hid hr410; clear ho409 hf408 hr410 hF416 KB403 TB404 WN405 OC406)
          | (refine wpList_load_agg rfl 35 _ rfl gb rfl (v3 e.t) ?hy _ HUT.out rfl (sizeRT _) ?_; (case hy => exact TB420.out))
          | (go_at_call 18; refine (told_any e.t w407).mono ?_; rintro r w423 ⟨rfl, hb424⟩; have OC429 := Lib.hid (OC411.out.below hb424); have KB425 : Hid (w423.heap[ga]? = some (vobj 33 (v3 e.k))) := Lib.hid (kb_below KB419.out hb424); have TB426 : Hid (w423.heap[gb]? = some (vobj 35 (v3 e.t))) := Lib.hid (kb_below TB420.out hb424); have WN427 : Hid (Ints w423 w.heap.size (.slice A n c) (CA.wants i)) := Lib.hid (WN421.out.below hb424); have G1428 : Hid (Ints w423 w.heap.size (.slice A412 n413 c414) (CA.wants i)) := Lib.hid (RW418.out.below hb424); clear hb424 KB419 TB420 WN421 RW418 OC411)
          | (go_at_call 17; refine (oc_settle w F415 b (S.oneset e.k e.t i) w423 OC429.out 1099511627776 e.t wfBig HT.out [] (S.oneset e.k e.t i) (S.one_joined e.k e.t LED.out i).2.2.1 (S.one_joined e.k e.t LED.out i).2.2.2).mono ?_; rintro r w430 ⟨A435, n436, c437, rfl, hr433, ho432, hf431⟩; obtain ⟨F438, hF439, ho432⟩ : ∃ F2 : Nat → Prop, (∀ j, F2 j → (show Nat → Prop from F415) j ∧ (Value.slice A435 n436 c437).ownBlock ≠ some j) ∧ OwC w w430 F2 b (S.oneset e.k e.t i) := ⟨_, fun _ h => h, ho432⟩; have ND440 : Hid (∀ j, F438 j → (Value.slice A435 n436 c437).ownBlock ≠ some j) := Lib.hid (fun j hj => (hF439 j hj).2); have ND446 : Hid (∀ j, F438 j → (Value.slice A n c).ownBlock ≠ some j) := Lib.hid (fun j hj => ND422.out j (hF439 j hj).1); have ND447 : Hid (∀ j, F438 j → (Value.slice A412 n413 c414).ownBlock ≠ some j) := Lib.hid (fun j hj => ND417.out j (hF439 j hj).1); have KB442 : Hid (w430.heap[ga]? = some (vobj 33 (v3 e.k))) := Lib.hid (foot_kept hf431 KB425.out (by decide)); have TB443 : Hid (w430.heap[gb]? = some (vobj 35 (v3 e.t))) := Lib.hid (foot_kept hf431 TB426.out (by decide)); have WN444 : Hid (Ints w430 w.heap.size (.slice A n c) (CA.wants i)) := Lib.hid (ints_foot WN427.out hf431 ND422.out); have G1445 : Hid (Ints w430 w.heap.size (.slice A412 n413 c414) (CA.wants i)) := Lib.hid (ints_foot G1428.out hf431 ND417.out); have OC434 := Lib.hid ho432; have RW441 := Lib.hid hr433; clear ho432 hf431 hr433 hF439 KB425 TB426 WN427 G1428 OC429; obtain rfl : 0 = n436 := RW441.out.row.2.1)
          | (refine wpList_load_agg rfl 33 _ rfl ga rfl (v3 e.k) ?hy _ HUK.out rfl (sizeRK _) ?_; (case hy => exact KB442.out))
          | (go_at_call 16; refine (key_any e.k w430).mono ?_; rintro r w448 ⟨rfl, hb449⟩; have OC454 := Lib.hid (OC434.out.below hb449); have KB450 : Hid (w448.heap[ga]? = some (vobj 33 (v3 e.k))) := Lib.hid (kb_below KB442.out hb449); have TB451 : Hid (w448.heap[gb]? = some (vobj 35 (v3 e.t))) := Lib.hid (kb_below TB443.out hb449); have WN452 : Hid (Ints w448 w.heap.size (.slice A n c) (CA.wants i)) := Lib.hid (WN444.out.below hb449); have G1453 : Hid (Ints w448 w.heap.size (.slice A412 n413 c414) (CA.wants i)) := Lib.hid (G1445.out.below hb449); clear hb449 KB442 TB443 WN444 G1445 OC434)
          | (go_at_call 15; refine (oc_ask w F438 b (S.oneset e.k e.t i) w448 OC454.out e.k 5 HK.out wfl5 (S.one_size e.k e.t SZ.out i (by omega)).2.1 3 e.t (S.oneset e.k e.t i) (S.one_know e.k e.t H0.out i).1 (S.one_know e.k e.t H0.out i).2.1 (S.one_know e.k e.t H0.out i).2.2).mono ?_; rintro r w455 ⟨rfl, ho457, hf456⟩; have OC458 := Lib.hid ho457; have KB461 : Hid (w455.heap[ga]? = some (vobj 33 (v3 e.k))) := Lib.hid (foot_kept hf456 KB450.out (by decide)); have TB462 : Hid (w455.heap[gb]? = some (vobj 35 (v3 e.t))) := Lib.hid (foot_kept hf456 TB451.out (by decide)); have WN463 : Hid (Ints w455 w.heap.size (.slice A n c) (CA.wants i)) := Lib.hid (ints_foot WN452.out hf456 ND446.out); have G1464 : Hid (Ints w455 w.heap.size (.slice A412 n413 c414) (CA.wants i)) := Lib.hid (ints_foot G1453.out hf456 ND447.out); obtain ⟨tg459, hg460⟩ : ∃ g, w455.heap.size = g := ⟨_, rfl⟩; clear ho457 hf456 KB450 TB451 WN452 G1453 OC454)
          | (refine wpList_alloc_agg rfl 44 rfl tg459 hg460 (v3 zero3) (allocT _) ?_; intro w465 ht466 hl467 hs468; have HZ477 : Hid (w.heap.size ≤ tg459) := Lib.hid (by have := OC458.out.low.size; omega); have OC469 := Lib.hid (OC458.out.below (show Below w455.heap.size w455 w465 by rw [hg460]; exact hl467)); have NE471 : Hid (ga ≠ tg459) := Lib.hid (by have := heap_lt KB461.out; omega); have NE472 : Hid (gb ≠ tg459) := Lib.hid (by have := heap_lt TB462.out; omega); have KB473 : Hid (w465.heap[ga]? = some (vobj 33 (v3 e.k))) := Lib.hid (kb_below KB461.out (show Below w455.heap.size w455 w465 by rw [hg460]; exact hl467)); have TB474 : Hid (w465.heap[gb]? = some (vobj 35 (v3 e.t))) := Lib.hid (kb_below TB462.out (show Below w455.heap.size w455 w465 by rw [hg460]; exact hl467)); have WN475 : Hid (Ints w465 w.heap.size (.slice A n c) (CA.wants i)) := Lib.hid (WN463.out.below (show Below w455.heap.size w455 w465 by rw [hg460]; exact hl467)); have G1476 : Hid (Ints w465 w.heap.size (.slice A412 n413 c414) (CA.wants i)) := Lib.hid (G1464.out.below (show Below w455.heap.size w455 w465 by rw [hg460]; exact hl467)); have NT470 := Lib.hid ht466; clear ht466 hl467 hs468 KB461 TB462 WN463 G1464 OC458)
          | (refine wpList_store_agg rfl 44 _ _ rfl tg459 (v3 zero3) (v3 e.t) rfl rfl ?hz rfl (sizeT _) (v3_ones _) ?_; (case hz => exact NT470.out); intro w478 ht479 hf480 hs481; have OC482 := Lib.hid (OC469.out.beside NT470.out (by decide) hf480 HZ477.out); have KB483 : Hid (w478.heap[ga]? = some (vobj 33 (v3 e.k))) := Lib.hid ((hf480.block _ (heap_lt KB473.out) NE471.out).trans KB473.out); have TB484 : Hid (w478.heap[gb]? = some (vobj 35 (v3 e.t))) := Lib.hid ((hf480.block _ (heap_lt TB474.out) NE472.out).trans TB474.out); have WN485 : Hid (Ints w478 w.heap.size (.slice A n c) (CA.wants i)) := Lib.hid (WN475.out.frm hf480 (one_typ NT470.out (by decide))); have G1486 : Hid (Ints w478 w.heap.size (.slice A412 n413 c414) (CA.wants i)) := Lib.hid (G1476.out.frm hf480 (one_typ NT470.out (by decide))); have XB487 := Lib.hid ht479; clear ht479 hf480 hs481 KB473 TB474 WN475 G1476 OC469 NT470; obtain ⟨kz, _, _⟩ := cells3 KB483.out)
          | (go_at_call 14; refine (oc_close w F438 b (S.oneset e.k e.t i) w478 OC482.out e.k.a (S.one_size e.k e.t SZ.out i (by omega)).2.1 ((S.oneset e.k e.t i).closed e.k.a) ((S.oneset e.k e.t i).close e.k.a) rfl rfl).mono ?_; rintro r w488 ⟨rfl, ho490, hf489⟩; have OC491 := Lib.hid ho490; have KB492 : Hid (w488.heap[ga]? = some (vobj 33 (v3 e.k))) := Lib.hid (foot_kept hf489 KB483.out (by decide)); have TB493 : Hid (w488.heap[gb]? = some (vobj 35 (v3 e.t))) := Lib.hid (foot_kept hf489 TB484.out (by decide)); have WN494 : Hid (Ints w488 w.heap.size (.slice A n c) (CA.wants i)) := Lib.hid (ints_foot WN485.out hf489 ND446.out); have G1495 : Hid (Ints w488 w.heap.size (.slice A412 n413 c414) (CA.wants i)) := Lib.hid (ints_foot G1486.out hf489 ND447.out); have XB496 : Hid (w488.heap[tg459]? = some (vobj 44 (v3 e.t))) := Lib.hid (foot_kept hf489 XB487.out (by decide)); clear ho490 hf489 KB483 TB484 WN485 G1486 XB487 OC482)
          | (refine wpList_load_agg rfl 33 _ rfl ga rfl (v3 e.k) ?hy _ HUK.out rfl (sizeRK _) ?_; (case hy => exact KB492.out))
          | (go_at_call 16; refine (key_any e.k w488).mono ?_; rintro r w497 ⟨rfl, hb498⟩; have OC504 := Lib.hid (OC491.out.below hb498); have KB499 : Hid (w497.heap[ga]? = some (vobj 33 (v3 e.k))) := Lib.hid (kb_below KB492.out hb498); have TB500 : Hid (w497.heap[gb]? = some (vobj 35 (v3 e.t))) := Lib.hid (kb_below TB493.out hb498); have WN501 : Hid (Ints w497 w.heap.size (.slice A n c) (CA.wants i)) := Lib.hid (WN494.out.below hb498); have G1502 : Hid (Ints w497 w.heap.size (.slice A412 n413 c414) (CA.wants i)) := Lib.hid (G1495.out.below hb498); have XB503 : Hid (w497.heap[tg459]? = some (vobj 44 (v3 e.t))) := Lib.hid (kb_below XB496.out hb498); clear hb498 KB492 TB493 WN494 G1495 XB496 OC491)
          | (go_at_call 15; refine (oc_ask w F438 b ((S.oneset e.k e.t i).close e.k.a) w497 OC504.out e.k 6 HK.out wfl6 (Nat.le_trans ((S.oneset e.k e.t i).close_size e.k.a) (S.one_size e.k e.t SZ.out i (by omega)).2.1) 1 zero3 (((S.oneset e.k e.t i).close e.k.a).ask e.k 6) (S.one_anew e.k e.t H0.out i).1 (S.one_anew e.k e.t H0.out i).2 rfl).mono ?_; rintro r w505 ⟨rfl, ho507, hf506⟩; have OC508 := Lib.hid ho507; have KB511 : Hid (w505.heap[ga]? = some (vobj 33 (v3 e.k))) := Lib.hid (foot_kept hf506 KB499.out (by decide)); have TB512 : Hid (w505.heap[gb]? = some (vobj 35 (v3 e.t))) := Lib.hid (foot_kept hf506 TB500.out (by decide)); have WN513 : Hid (Ints w505 w.heap.size (.slice A n c) (CA.wants i)) := Lib.hid (ints_foot WN501.out hf506 ND446.out); have G1514 : Hid (Ints w505 w.heap.size (.slice A412 n413 c414) (CA.wants i)) := Lib.hid (ints_foot G1502.out hf506 ND447.out); have XB515 : Hid (w505.heap[tg459]? = some (vobj 44 (v3 e.t))) := Lib.hid (foot_kept hf506 XB503.out (by decide)); obtain ⟨tg509, hg510⟩ : ∃ g, w505.heap.size = g := ⟨_, rfl⟩; clear ho507 hf506 KB499 TB500 WN501 G1502 XB503 OC504)
          | (refine wpList_alloc_agg rfl 44 rfl tg509 hg510 (v3 zero3) (allocT _) ?_; intro w516 ht517 hl518 hs519; have HZ530 : Hid (w.heap.size ≤ tg509) := Lib.hid (by have := OC508.out.low.size; omega); have OC520 := Lib.hid (OC508.out.below (show Below w505.heap.size w505 w516 by rw [hg510]; exact hl518)); have NE522 : Hid (ga ≠ tg509) := Lib.hid (by have := heap_lt KB511.out; omega); have NE523 : Hid (gb ≠ tg509) := Lib.hid (by have := heap_lt TB512.out; omega); have NE524 : Hid (tg459 ≠ tg509) := Lib.hid (by have := heap_lt XB515.out; omega); have KB525 : Hid (w516.heap[ga]? = some (vobj 33 (v3 e.k))) := Lib.hid (kb_below KB511.out (show Below w505.heap.size w505 w516 by rw [hg510]; exact hl518)); have TB526 : Hid (w516.heap[gb]? = some (vobj 35 (v3 e.t))) := Lib.hid (kb_below TB512.out (show Below w505.heap.size w505 w516 by rw [hg510]; exact hl518)); have WN527 : Hid (Ints w516 w.heap.size (.slice A n c) (CA.wants i)) := Lib.hid (WN513.out.below (show Below w505.heap.size w505 w516 by rw [hg510]; exact hl518)); have G1528 : Hid (Ints w516 w.heap.size (.slice A412 n413 c414) (CA.wants i)) := Lib.hid (G1514.out.below (show Below w505.heap.size w505 w516 by rw [hg510]; exact hl518)); have XB529 : Hid (w516.heap[tg459]? = some (vobj 44 (v3 e.t))) := Lib.hid (kb_below XB515.out (show Below w505.heap.size w505 w516 by rw [hg510]; exact hl518)); have NT521 := Lib.hid ht517; clear ht517 hl518 hs519 KB511 TB512 WN513 G1514 XB515 OC508)
          | (refine wpList_store_agg rfl 44 _ _ rfl tg509 (v3 zero3) (v3 zero3) rfl rfl ?hz rfl (sizeT _) (v3_ones _) ?_; (case hz => exact NT521.out); intro w531 ht532 hf533 hs534; have OC535 := Lib.hid (OC520.out.beside NT521.out (by decide) hf533 HZ530.out); have KB536 : Hid (w531.heap[ga]? = some (vobj 33 (v3 e.k))) := Lib.hid ((hf533.block _ (heap_lt KB525.out) NE522.out).trans KB525.out); have TB537 : Hid (w531.heap[gb]? = some (vobj 35 (v3 e.t))) := Lib.hid ((hf533.block _ (heap_lt TB526.out) NE523.out).trans TB526.out); have WN538 : Hid (Ints w531 w.heap.size (.slice A n c) (CA.wants i)) := Lib.hid (WN527.out.frm hf533 (one_typ NT521.out (by decide))); have G1539 : Hid (Ints w531 w.heap.size (.slice A412 n413 c414) (CA.wants i)) := Lib.hid (G1528.out.frm hf533 (one_typ NT521.out (by decide))); have XB540 : Hid (w531.heap[tg459]? = some (vobj 44 (v3 e.t))) := Lib.hid ((hf533.block _ (heap_lt XB529.out) NE524.out).trans XB529.out); clear ht532 hf533 hs534 KB525 TB526 WN527 G1528 XB529 OC520 NT521))
            have hsa : ∀ p : Later w531, Calls Try.prog 19 #[.slice A412 n413 c414, .slice A n c] p.v fun r w' => r = .returned (.bool true) ∧ Below p.v.heap.size p.v w' := fun p => by
              have r1 := G1539.out.below p.low
              have r2 := WN538.out.below p.low
              exact (same_yes2 _ _ _ _ _ _ _ _ p.v r1 r2.row.1 r2.row.2.1).mono (fun _ _ ⟨h, k⟩ => ⟨h, ali_below k⟩)
            have HSA := Lib.hid hsa
            have hto : ∀ p : Later w531, Calls Try.prog 18 #[.agg (aggV (v3 e.t))] p.v fun r w' => r = .returned (.agg (aggV (v3 e.t))) ∧ Below p.v.heap.size p.v w' := fun p => told_any e.t p.v
            have HTO := Lib.hid hto
            have ld1 : ∀ p : Later w531, (Instr.loadAt 44 (.pointer (some ⟨tg459, 0, none⟩))).run Try.prog p.v = .ok (.agg (aggV (v3 e.t))) p.v := fun p => run_loadAt_agg p.v _ tg459 (v3 e.t) _ (p.heap XB540.out) HUC.out rfl (sizeT _)
            have ld2 : ∀ p : Later w531, (Instr.loadAt 35 (.pointer (some ⟨gb, 0, none⟩))).run Try.prog p.v = .ok (.agg (aggV (v3 e.t))) p.v := fun p => run_loadAt_agg p.v _ gb (v3 e.t) _ (p.heap TB537.out) HUT.out rfl (sizeRT _)
            have LD1 := Lib.hid ld1
            have LD2 := Lib.hid ld2
            have heq : ∀ w, (Op.equalIn 10000 44 (.agg (aggV (v3 e.t))) (.agg (aggV (v3 e.t)))).run Try.prog w = .ok true w := fun w => by
              have := sameT e.t e.t HT.out HT.out w
              rwa [show decide (e.t = e.t) = true by simp] at this
            have LOWZ : Hid (Below w.heap.size w w531) := Lib.hid OC535.out.low
            clear hsa hto ld1 ld2
            go_frame
            refine wp_region_later (by kernel_rfl) (by kernel_rfl) ?_
            repeat (first
              | (refine wpQuiet_load rfl 44 _ rfl tg459 rfl (.agg (aggV (v3 e.t))) LD1.out ?_; simp only [Act.put, List.setIfInBounds_toArray, List.set_cons_zero, List.set_cons_succ])
              | (refine wpQuiet_load rfl 35 _ rfl gb rfl (.agg (aggV (v3 e.t))) LD2.out ?_; simp only [Act.put, List.setIfInBounds_toArray, List.set_cons_zero, List.set_cons_succ])
              | go_big_quiet_step (first
                | (go_at_call 19; with_reducible exact Calls.later_of (HSA.out _))
                | (go_at_call 18; with_reducible exact Calls.later_of (HTO.out _))))
            refine wpQuiet_nil ?_
            rintro w10 ⟨⟨_, b10⟩, rfl⟩
            go_wp2
            go_ret
            exact ⟨rfl, by have := LOWZ.out.trans (b10.mono LOWZ.out.size); first | exact this | (rw [hg] at this; exact this)⟩

set_option maxRecDepth 100000 in
theorem lifted (os : Os) (started : os.Started) (H : Type) (enc : TypeId × Value → H) :
    ReturnsInHanded {} Try.checked os 4 .any (Rows.cacheOneSpec.pre6 enc Try.prog Try.f4 Rows.cacheOneRow.domain false) (Rows.cacheOneSpec.post enc Try.prog Try.f4 false true false false) := by
  refine returnsInHanded_of_change_sized (C := Try.checked) own started (by kernel_rfl) Try.func4
    (ChangeSpec.witness6 (enc := enc) (C := Try.checked) false ⟨#[], #[.slice none 0 0, .agg #[.int .i64 0, .int .i64 0, .int .i64 0, .int .i64 0, .bool false, .int .i64 0, .int .i64 0, .int .i64 0], .int .u8 0], []⟩ 8 (by kernel_rfl) (by kernel_rfl) (by kernel_rfl) (by kernel_rfl)) ?_
  intro W base args ds gs before hval0 hW hcnd hsz0 _
  have hval : ∀ (j : Nat) t v, Try.f4.params[j]? = some t → args[j]? = some v → Value.okWide Try.prog W .any base t v := hval0
  have hsz : (DataW.weightsEach Try.prog (Try.f4.params.toList ++ Rows.cacheOneSpec.plain.varTypes Try.prog) (ds ++ gs)).all (· ≤ reachBytes) = true := hsz0
  have hW' := hW
  obtain ⟨p, q, hA0, hV, rfl, hfz, hnd⟩ := hW
  have hA : DataW.TrodAll enc Try.prog W 0 (fun _ => true) true Try.f4.params.toList args.toList ds p := hA0
  rw [Try.params4] at hA hval hsz
  have hAk := hA
  obtain ⟨v0, vs0, d0, ds0, p0, q0, hargs, rfl, rfl, h0, r0⟩ := trodAll_cons hA
  obtain ⟨v1, vs1, d1, ds1, p1, q1, rfl, rfl, rfl, h1, r1⟩ := trodAll_cons r0
  obtain ⟨v2, vs2, d2, ds2, p2, q2, rfl, rfl, rfl, h2, r2⟩ := trodAll_cons r1
  obtain ⟨rfl, rfl, rfl⟩ := trodAll_nil r2
  obtain rfl : args = #[v0, v1, v2] := by cases args; simp_all
  obtain ⟨rfl, rfl⟩ := trodVars_none hV
  obtain ⟨a0, l0, k0, L0, rfl, w0⟩ := open_slice_flat (ks := [.int .i64, .int .i64, .int .i64, .int .i64, .int .i64, .int .i64, .int .i64, .int .i64]) (bytes := 64) 8 Try.underlying22 (by kernel_rfl) (by kernel_rfl) (by decide) (by kernel_rfl) (hval 0 22 v0 rfl rfl) h0 (fun elems rest hd => by subst hd; exact sized_slice hsz (j := 0) (t := 22) (e := 37) rfl rfl Try.underlying22)
  obtain ⟨c1, rfl, w1⟩ := open_flat (ks := [.int .i64, .int .i64, .int .i64, .int .i64, .bool, .int .i64, .int .i64, .int .i64]) 8 (by kernel_rfl) (by kernel_rfl) (hval 1 41 v1 rfl rfl) h1
  obtain ⟨a2, rfl, rfl, rfl, w2⟩ := open_int Try.underlying5 (hval 2 5 v2 rfl rfl) h2
  clear hA0 hval0 hsz0
  refine (walk W a0 l0 k0 L0 w0 c1 w1 a2 w2).mono fun e W' ⟨he, bel⟩ => ?_
  subst he
  exact ⟨_, rfl, _, _, _, [], _, [], hW', trodAll_mk1 (shut_bool Try.underlying4 _), trodAll_below laidOut bel _ _ _ _ (by kernel_rfl) hAk, rfl, bel.frame _, fun h => by cases h⟩

theorem over : Rows.cacheOneRow.holds Try.pinned (OpenSpec.ofChange Rows.cacheOneSpec) :=
  OpenClaim.holds_of_wide 4 Try.f4 rfl rfl rfl rfl rfl rfl rfl ⟨rfl, rfl, rfl, rfl, rfl⟩ rfl rfl rfl rfl rfl (by kernel_rfl) Try.func4 (by kernel_rfl)
    (of_decide_eq_true (by kernel_rfl)) (by unfold Func.isWrapper; first | (rw [if_pos (by decide +kernel)]; kernel_rfl) | (rw [if_neg (by decide +kernel)]; exact ⟨rfl, rfl⟩))
    (fun os started H enc _ => lifted os started H enc)

theorem proved : Rows.CacheOneSaid := over
#print axioms proved
end Go.Proofs.Ytlphahkmibhidaa.cacheOne
