/- What is proved: BulkRefuses of porpoiselaw10 answers true for every input, and leaves its arguments as they were; conditions: those of the given row alone. -/
import Derived.Test.YtnmcnniilihecaaKit
import Derived.Test.YtnmcnniilihecaaRan10
namespace Go.Proofs.Ytnmcnniilihecaa.bulkRefuses
open Go.ChangeShapes Go.WideShapes Go.ChangeAt Go.RowKit Go.Deep
open Go.ChangeMaps (open_string shut_string)
set_option linter.unusedVariables false

theorem own : ownKnob Try.prog.godebug = none := by kernel_rfl
theorem laidOut : laidOutB Try.prog = true := by kernel_rfl

theorem there {S : BU} {x : Int} (h : x ∈ S.run ∨ x ∈ S.wait) : S.tells x = 3 ∧ S.lets x = [] ∧ S.adm x = S := by
  unfold BU.tells BU.lets BU.adm
  rw [if_pos h, if_pos h, if_pos h]
  exact ⟨rfl, rfl, rfl⟩
theorem refused {S : BU} {x : Int} (hr : x ∉ S.run) (hw : x ∉ S.wait) (h1 : S.run.length = S.most) (h2 : S.wait.length = S.que) : S.tells x = 3 ∧ S.lets x = [] ∧ S.adm x = S := by
  have e0 : ¬ (x ∈ S.run ∨ x ∈ S.wait) := fun h => h.elim hr hw
  have e1 : ¬ (S.run.length < S.most ∧ S.wait = []) := fun h => by omega
  have e2 : ¬ S.wait.length < S.que := by omega
  have e3 : ¬ S.run.length < S.most := by omega
  unfold BU.tells BU.lets BU.adm
  rw [if_neg e0, if_neg e1, if_neg e2, if_neg e0, if_neg e1, if_neg e2, if_neg e0, if_neg e1, if_neg e2]
  cases he : S.wait with
  | nil => exact ⟨rfl, rfl, rfl⟩
  | cons y l => simp [e3]
theorem taken {S : BU} {x : Int} (ok : S.Ok) (hr : x ∉ S.run) (hw : x ∉ S.wait) (hn : ¬ (S.run.length = S.most ∧ S.wait.length = S.que)) :
    ((S.tells x = 1 ∧ x ∈ (S.adm x).run ∧ S.lets x = []) ∨ (S.tells x = 2 ∧ x ∈ (S.adm x).wait)) ∧ (S.adm x).run.length + (S.adm x).wait.length = S.run.length + S.wait.length + 1 := by
  have e0 : ¬ (x ∈ S.run ∨ x ∈ S.wait) := fun h => h.elim hr hw
  have l1 := ok.lr
  have l2 := ok.lw
  unfold BU.tells BU.lets BU.adm
  rw [if_neg e0, if_neg e0, if_neg e0]
  by_cases e1 : S.run.length < S.most ∧ S.wait = []
  · rw [if_pos e1, if_pos e1, if_pos e1]
    exact ⟨.inl ⟨rfl, by simp [BU.runs], rfl⟩, by simp [BU.runs]; omega⟩
  · rw [if_neg e1, if_neg e1, if_neg e1]
    by_cases e2 : S.wait.length < S.que
    · rw [if_pos e2, if_pos e2, if_pos e2]
      exact ⟨.inr ⟨rfl, by simp [BU.waits]⟩, by simp [BU.waits]; omega⟩
    · rw [if_neg e2, if_neg e2, if_neg e2]
      have e3 : S.run.length < S.most := by omega
      cases he : S.wait with
      | nil => exact (e1 ⟨e3, he⟩).elim
      | cons y l =>
        simp only [if_pos e3]
        exact ⟨.inr ⟨by simp, by simp [BU.waits]⟩, by simp [BU.waits, BU.turn]; omega⟩

set_option maxRecDepth 100000 in
set_option maxHeartbeats 2000000 in
theorem walk (w : World) (c0 : Array Value) (w0 : Flat [.int .u8, .int .u8] c0.toList) (a1 : Bool) (a2 : Option Addr) (l2 k2 : Nat) (L2 : List (List Value)) (w2 : SliceIn w [.int .i64, .int .i64] 16 a2 l2 k2 L2) :
    Calls Try.prog 5 #[.agg c0, .bool a1, .slice a2 l2 k2] w fun e w' => e = .returned (.bool true) ∧ Below w.heap.size w w' := by
  obtain ⟨m, q, rfl, hm0, hq0⟩ := w0.two
  have hm : 0 ≤ m ∧ m ≤ 255 := u8_wf hm0
  have hq : 0 ≤ q ∧ q ≤ 255 := u8_wf hq0
  have hml := w2.2.2.2.2.1
  have hlk := w2.2.2.1
  have hLl := w2.1
  unfold maxLen at hml
  obtain ⟨fs, hu⟩ := undC
  have HU := Lib.hid hu
  have HS := Lib.hid w2
  have HM := Lib.hid hm
  have HQ := Lib.hid hq
  clear w0 w2 hm0 hq0 hm hq hu
  have b0 := below_alloc w (.cells #[.int .u8 m, .int .u8 q] 43)
  have e0 : (w.alloc (.cells #[.int .u8 m, .int .u8 q] 43)).heap[w.heap.size]? = some (vobj 43 [.int .u8 m, .int .u8 q]) := heap_alloc_at w _
  generalize hW : w.alloc (.cells #[.int .u8 m, .int .u8 q] 43) = wx at *
  have B0 := Lib.hid b0
  have E0 := Lib.hid e0
  clear b0 e0
  go_enter Try.func5, Try.ntmps5
  go_wp2_with fail
  refine (awake_any _).mono ?_
  rintro r wa ⟨rfl, ba⟩
  have e1 : wa.heap[w.heap.size]? = some (vobj 43 [.int .u8 m, .int .u8 q]) := kb_below E0.out ba
  have c0 : wa.cell? ⟨w.heap.size, 0, none⟩ = some (.int .u8 m) := vobj_cell e1 rfl
  have c1 : wa.cell? ⟨w.heap.size, 1, none⟩ = some (.int .u8 q) := vobj_cell e1 rfl
  have BA := Lib.hid (B0.out.trans (ba.mono B0.out.size))
  clear ba e1 hW B0 E0
  go_wp2_with fail
  refine (conf_any a1 m q wa HM.out HQ.out).mono ?_
  rintro r wb ⟨c, rfl, n, k, hc, hn1, hps, hqk, bb⟩
  have HC := Lib.hid hc
  have BB := Lib.hid (BA.out.trans (bb.mono BA.out.size))
  have hn8 : n ≤ 8 := hc.1
  have hk8 : k ≤ 8 := hc.2.1
  obtain ⟨g8, hg8⟩ : ∃ g8, wb.heap.size = g8 := ⟨_, rfl⟩
  clear hc bb BA c0 c1
  go_wp2_with (first
    | (refine wpList_alloc_agg rfl 24 rfl g8 hg8 Cnf.zero.vals (allocC _) ?_; intro wc h6 l6 t6;
       have BC : Hid (Below w.heap.size w wc) := Lib.hid (BB.out.trans (l6.mono (by have := BB.out.size; omega)));
       have H6 := Lib.hid h6; clear h6 l6 t6)
    | (refine wpList_store_agg rfl 24 _ _ rfl g8 Cnf.zero.vals c.vals rfl rfl ?hz rfl (sizeC _) (Cnf.ones_vals _) ?_; (case hz => exact H6.out); intro wd h7 f7 t7;
       have BD : Hid (Below w.heap.size w wd) := Lib.hid (BC.out.trans (f7.below BC.out.size (fun j hj e => by have e' : j = g8 := e; have := BB.out.size; omega)));
       have H7 := Lib.hid h7; clear h7 f7 t7 H6)
    | (refine wpList_load_agg rfl 24 _ rfl g8 rfl c.vals ?hy _ HU.out rfl (sizeC _) ?_; (case hy => exact H7.out)))
  refine (ran_any w c n k a2 l2 k2 L2 wd HC.out HS.out BD.out).mono ?_
  rintro r w1 ⟨b, rfl, f, S, hof, o1, b1⟩
  have O1 := Lib.hid o1
  have OF := Lib.hid hof
  have K1 := Lib.hid (kb_below H7.out b1)
  clear o1 hof b1 BB BC BD H7 hg8
  go_wp2
  go_loopg [11] l2 (fun g v11 wr => ∃ i : Nat, i + g = l2 ∧ v11 = .int .i64 i ∧ (1099511627776 : Int) ∉ (L2.map idOf).take i ∧ wr = w1)
  case atStart => exact ⟨0, by omega, rfl, by simp, rfl⟩
  case round =>
    obtain ⟨i, hg, rfl, hno, rfl⟩ := hrel
    have G := Lib.hid hg
    have NO := Lib.hid hno
    clear hg hno
    by_cases hin : i < l2
    · have hi1 : (i : Int) < l2 := by omega
      obtain ⟨blk, off, kd, z, rfl, q0, q1, hz, hid⟩ := deed_at HS.out (i := i) hin
      have p1 := cell_later O1.out.low q1
      have HD := Lib.hid hid
      clear q0 q1 hz hid
      by_cases hzx : z = 1099511627776
      · have hzx' : (z == 1099511627776) = true := by simp [hzx]
        clear hzx
        go_wp2
        go_ret
        exact ⟨rfl, O1.out.low⟩
      · have hzx' : (z == 1099511627776) = false := by simp [hzx]
        have HZX := Lib.hid hzx
        clear hzx
        go_wp2
        go_roundg (l2 - (i + 1))
        case measure => have := G.out; omega
        case rel =>
          refine ⟨i + 1, by omega, by simp, fun hc => ?_, rfl⟩
          rw [List.take_add_one, HD.out] at hc
          rcases List.mem_append.1 hc with hc | hc
          · exact NO.out hc
          · simp at hc; exact HZX.out hc.symm
    · have hi1 : ¬ (i : Int) < l2 := by omega
      have hnot : (1099511627776 : Int) ∉ (L2.map idOf).take 100 := fun hc => by
        have hx := NO.out
        rw [List.take_of_length_le (by simp; omega)] at hx
        exact hx (List.mem_of_mem_take hc)
      have hnr : (1099511627776 : Int) ∉ S.run := fun hc => hnot (OF.out.ids _ (.inl hc))
      have hnw : (1099511627776 : Int) ∉ S.wait := fun hc => hnot (OF.out.ids _ (.inr hc))
      have HNR := Lib.hid hnr
      have HNW := Lib.hid hnw
      have WID : Hid (wf64 1099511627776) := Lib.hid ⟨by omega, by omega⟩
      obtain ⟨z, hz⟩ : ∃ z, S.run.length = z := ⟨_, rfl⟩
      have HZ := Lib.hid hz
      have hz8 : z ≤ 8 := by have := O1.out.bul.ok.lr; have := O1.out.bul.ok.m8; omega
      clear hnot hnr hnw hz
      go_wp2_with fail
      refine (ou_busy w b f S _ O1.out z HZ.out).mono ?_
      rintro r wy ⟨rfl, rfl⟩
      go_wp2_with fail
      refine (ou_waiting w b f S _ O1.out S.wait rfl).mono ?_
      rintro r w3 ⟨A3, k3, c3, rfl, i3, b3⟩
      have O3 := Lib.hid (O1.out.below b3)
      have I3 := Lib.hid i3
      have hk3 : S.wait.length = k3 := i3.row.2.1
      have hk38 : k3 ≤ 8 := by have := O1.out.bul.ok.lw; have := O1.out.bul.ok.q8; omega
      have HK := Lib.hid hk3
      have h3 := kb_below K1.out b3
      obtain ⟨d0, d1, d2, d3, _⟩ := Cnf.cells_vals h3
      rw [hqk] at d2
      clear i3 b3 O1 hk3 K1 h3 d0
      by_cases hfull : z = n ∧ k3 = k
      · obtain ⟨rfl, rfl⟩ := hfull
        have href : Hid (S.tells 1099511627776 = 3 ∧ S.lets 1099511627776 = [] ∧ S.adm 1099511627776 = S) := Lib.hid (refused HNR.out HNW.out (by rw [OF.out.most, HZ.out]) (by rw [OF.out.que, HK.out]))
        go_wp2_with fail
        refine (ou_admit w b f S 1099511627776 w3 O3.out WID.out 3 [] S href.out.1 href.out.2.1 href.out.2.2).mono ?_
        rintro r w4 ⟨A4, k4, c4, rfl, i4, o4, f4⟩
        have hk4 : k4 = 0 := i4.row.2.1.symm
        subst hk4
        have O4 := Lib.hid o4
        have I4 := Lib.hid (O3.out.bul.ints f4 I3.out)
        clear i4 o4 f4 O3 I3 d1 d2 d3
        go_wp2_with fail
        refine (ou_admit w b f S 1099511627776 w4 O4.out WID.out 3 [] S href.out.1 href.out.2.1 href.out.2.2).mono ?_
        rintro r w5 ⟨A5, k5, c5, rfl, i5, o5, f5⟩
        have hk5 : k5 = 0 := i5.row.2.1.symm
        subst hk5
        have O5 := Lib.hid o5
        have I5 := Lib.hid (O4.out.bul.ints f5 I4.out)
        clear i5 o5 f5 O4 I4
        go_wp2_with fail
        refine (ou_busy w b f S _ O5.out z HZ.out).mono ?_
        rintro r wy ⟨rfl, rfl⟩
        go_wp2_with fail
        refine (ou_waiting w b f S _ O5.out S.wait rfl).mono ?_
        rintro r w6 ⟨A6, k6, c6, rfl, i6, b6⟩
        have O6 := Lib.hid (O5.out.below b6)
        have I6 := Lib.hid i6
        have J6 := Lib.hid (I5.out.below b6)
        clear i6 b6 O5 I5
        go_wp2_with fail
        have hs := same_any A6 A3 k6 c6 k3 c3 S.wait S.wait w6 I6.out.row.1 I6.out.row.2.1 J6.out.row.1 J6.out.row.2.1
        rw [show decide (S.wait = S.wait) = true by simp] at hs
        refine hs.mono ?_
        clear hs
        rintro r w7 ⟨rfl, a7⟩
        have O7 := Lib.hid (O6.out.ali a7)
        clear a7 O6 I6 J6
        go_wp2
        go_ret
        exact ⟨rfl, O7.out.low⟩
      · have htk := taken O3.out.bul.ok HNR.out HNW.out (fun h => hfull ⟨by rw [← HZ.out, h.1, OF.out.most], by rw [← HK.out, h.2, OF.out.que]⟩)
        obtain ⟨S1, hS1⟩ : ∃ S1, S.adm 1099511627776 = S1 := ⟨_, rfl⟩
        obtain ⟨t, ht⟩ : ∃ t, S.tells 1099511627776 = t := ⟨_, rfl⟩
        obtain ⟨L, hL⟩ : ∃ L, S.lets 1099511627776 = L := ⟨_, rfl⟩
        rw [hS1, ht, hL, HZ.out, HK.out] at htk
        have HTK := Lib.hid htk
        have HS1 := Lib.hid hS1
        have HTT := Lib.hid ht
        have HLL := Lib.hid hL
        have AG : Hid (S1.tells 1099511627776 = 3 ∧ S1.lets 1099511627776 = [] ∧ S1.adm 1099511627776 = S1) := Lib.hid (there (by rcases htk.1 with ⟨_, h, _⟩ | ⟨_, h⟩; exact .inl h; exact .inr h))
        have hf : ((z : Int) == (n : Int)) = false ∨ (((z : Int) == (n : Int)) = true ∧ ((k3 : Int) == (k : Int)) = false) := by
          by_cases h1 : z = n
          · exact .inr ⟨by simp [h1], by simp; intro h2; exact hfull ⟨h1, by omega⟩⟩
          · exact .inl (by simp; omega)
        clear htk hS1 ht hL hfull
        rcases hf with hf | ⟨hf, hf'⟩
        all_goals
          go_wp2_with fail
          refine (ou_admit w b f S 1099511627776 w3 O3.out WID.out t L S1 HTT.out HLL.out HS1.out).mono ?_
          rintro r w4 ⟨A4, k4, c4, rfl, i4, o4, f4⟩
          have hk4 : L.length = k4 := i4.row.2.1
          have HK4 := Lib.hid hk4
          have O4 := Lib.hid o4
          clear i4 o4 f4 O3 I3 d1 d2 d3 hk4
          go_wp2_with fail
          refine (ou_admit w b f S1 1099511627776 w4 O4.out WID.out 3 [] S1 AG.out.1 AG.out.2.1 AG.out.2.2).mono ?_
          rintro r w5 ⟨A5, k5, c5, rfl, i5, o5, f5⟩
          have hk5 : k5 = 0 := i5.row.2.1.symm
          subst hk5
          have O5 := Lib.hid o5
          clear i5 o5 f5 O4
          obtain ⟨z1, hz1⟩ : ∃ z1, S1.run.length = z1 := ⟨_, rfl⟩
          obtain ⟨y1, hy1⟩ : ∃ y1, S1.wait.length = y1 := ⟨_, rfl⟩
          have hsum : z1 + y1 = z + k3 + 1 := by have := HTK.out.2; omega
          have HZ1 := Lib.hid hz1
          have HY1 := Lib.hid hy1
          obtain ⟨ht, hin, hl⟩ | ⟨ht, hin⟩ := HTK.out.1
          · subst ht
            have hk0 : k4 = 0 := by rw [← HK4.out, hl]; rfl
            subst hk0
            have HIN := Lib.hid hin
            clear hz1 hy1 hin hl
            go_wp2_with fail
            refine (ou_runs w b f S1 1099511627776 w5 O5.out WID.out true (by simp [HIN.out])).mono ?_
            rintro r w6 ⟨rfl, b6⟩
            have O6 := Lib.hid (O5.out.below b6)
            clear b6 O5
            go_wp2_with fail
            refine (ou_busy w b f S1 _ O6.out z1 HZ1.out).mono ?_
            rintro r wy ⟨rfl, rfl⟩
            go_wp2_with fail
            refine (ou_waiting w b f S1 _ O6.out S1.wait rfl).mono ?_
            rintro r w7 ⟨A7, k7, c7, rfl, i7, b7⟩
            have hk7 : k7 = y1 := by rw [← HY1.out]; exact i7.row.2.1.symm
            subst hk7
            have O7 := Lib.hid (O6.out.below b7)
            clear i7 b7 O6
            have hy9 : z1 ≤ 17 ∧ k7 ≤ 17 := by omega
            have hsum' : (z1 : Int) + (k7 : Int) = (z : Int) + (k3 : Int) + 1 := by omega
            go_wp2
            go_ret
            exact ⟨rfl, O7.out.low⟩
          · subst ht
            have HIN := Lib.hid hin
            clear hz1 hy1 hin
            go_wp2_with fail
            refine (ou_waiting w b f S1 _ O5.out S1.wait rfl).mono ?_
            rintro r w6 ⟨A6, k6, c6, rfl, i6, b6⟩
            have O6 := Lib.hid (O5.out.below b6)
            have I6 := Lib.hid i6
            clear i6 b6 O5
            go_wp2_with fail
            have hh := has_any A6 k6 c6 1099511627776 S1.wait w6 I6.out.row.1 I6.out.row.2.1
            rw [decide_eq_true HIN.out] at hh
            refine hh.mono ?_
            clear hh
            rintro r wy ⟨rfl, rfl⟩
            go_wp2_with fail
            refine (ou_busy w b f S1 _ O6.out z1 HZ1.out).mono ?_
            rintro r wy ⟨rfl, rfl⟩
            go_wp2_with fail
            refine (ou_waiting w b f S1 _ O6.out S1.wait rfl).mono ?_
            rintro r w7 ⟨A7, k7, c7, rfl, i7, b7⟩
            have hk7 : k7 = y1 := by rw [← HY1.out]; exact i7.row.2.1.symm
            subst hk7
            have O7 := Lib.hid (O6.out.below b7)
            clear i7 b7 O6 I6
            have hy9 : z1 ≤ 17 ∧ k7 ≤ 17 := by omega
            have hsum' : (z1 : Int) + (k7 : Int) = (z : Int) + (k3 : Int) + 1 := by omega
            go_wp2
            go_ret
            exact ⟨rfl, O7.out.low⟩

set_option maxRecDepth 100000 in
theorem lifted (os : Os) (started : os.Started) (H : Type) (enc : TypeId × Value → H) :
    ReturnsInHanded {} Try.checked os 5 .any (Rows.bulkRefusesSpec.pre6 enc Try.prog Try.f5 Rows.bulkRefusesRow.domain false) (Rows.bulkRefusesSpec.post enc Try.prog Try.f5 false true false false) := by
  refine returnsInHanded_of_change_sized (C := Try.checked) own started (by kernel_rfl) Try.func5
    (ChangeSpec.witness6 (enc := enc) (C := Try.checked) false ⟨#[], #[.agg #[.int .u8 0, .int .u8 0], .bool false, .slice none 0 0], []⟩ 8 (by kernel_rfl) (by kernel_rfl) (by kernel_rfl) (by kernel_rfl)) ?_
  intro W base args ds gs before hval0 hW hcnd hsz0 _
  have hval : ∀ (j : Nat) t v, Try.f5.params[j]? = some t → args[j]? = some v → Value.okWide Try.prog W .any base t v := hval0
  have hsz : (DataW.weightsEach Try.prog (Try.f5.params.toList ++ Rows.bulkRefusesSpec.plain.varTypes Try.prog) (ds ++ gs)).all (· ≤ reachBytes) = true := hsz0
  have hW' := hW
  obtain ⟨p, q, hA0, hV, rfl, hfz, hnd⟩ := hW
  have hA : DataW.TrodAll enc Try.prog W 0 (fun _ => true) true Try.f5.params.toList args.toList ds p := hA0
  rw [Try.params5] at hA hval hsz
  have hAk := hA
  obtain ⟨v0, vs0, d0, ds0, p0, q0, hargs, rfl, rfl, h0, r0⟩ := trodAll_cons hA
  obtain ⟨v1, vs1, d1, ds1, p1, q1, rfl, rfl, rfl, h1, r1⟩ := trodAll_cons r0
  obtain ⟨v2, vs2, d2, ds2, p2, q2, rfl, rfl, rfl, h2, r2⟩ := trodAll_cons r1
  obtain ⟨rfl, rfl, rfl⟩ := trodAll_nil r2
  obtain rfl : args = #[v0, v1, v2] := by cases args; simp_all
  obtain ⟨rfl, rfl⟩ := trodVars_none hV
  obtain ⟨c0, rfl, w0⟩ := open_flat (ks := [.int .u8, .int .u8]) 8 (by kernel_rfl) (by kernel_rfl) (hval 0 43 v0 rfl rfl) h0
  obtain ⟨a1, rfl, rfl, rfl⟩ := open_bool Try.underlying4 (hval 1 4 v1 rfl rfl) h1
  obtain ⟨a2, l2, k2, L2, rfl, w2⟩ := open_slice_flat (ks := [.int .i64, .int .i64]) (bytes := 16) 8 Try.underlying25 (by kernel_rfl) (by kernel_rfl) (by decide) (by kernel_rfl) (hval 2 25 v2 rfl rfl) h2 (fun elems rest hd => by subst hd; exact sized_slice hsz (j := 2) (t := 25) (e := 36) rfl rfl Try.underlying25)
  clear hA0 hval0 hsz0
  refine (walk W c0 w0 a1 a2 l2 k2 L2 w2).mono fun e W' ⟨he, bel⟩ => ?_
  subst he
  exact ⟨_, rfl, _, _, _, [], _, [], hW', trodAll_mk1 (shut_bool Try.underlying4 _), trodAll_below laidOut bel _ _ _ _ (by kernel_rfl) hAk, rfl, bel.frame _, fun h => by cases h⟩

theorem over : Rows.bulkRefusesRow.holds Try.pinned (OpenSpec.ofChange Rows.bulkRefusesSpec) :=
  OpenClaim.holds_of_wide 5 Try.f5 rfl rfl rfl rfl rfl rfl rfl ⟨rfl, rfl, rfl, rfl, rfl⟩ rfl rfl rfl rfl rfl (by kernel_rfl) Try.func5 (by kernel_rfl)
    (of_decide_eq_true (by kernel_rfl)) (by unfold Func.isWrapper; first | (rw [if_pos (by decide +kernel)]; kernel_rfl) | (rw [if_neg (by decide +kernel)]; exact ⟨rfl, rfl⟩))
    (fun os started H enc _ => lifted os started H enc)

theorem proved : Rows.BulkRefusesSaid := over
#print axioms proved
end Go.Proofs.Ytnmcnniilihecaa.bulkRefuses
