/- What is proved: BulkTurn of porpoiselaw10 answers true for every input, and leaves its arguments as they were; conditions: those of the given row alone. -/
import Derived.Test.YtnmcnniilihecaaKit
import Derived.Test.YtnmcnniilihecaaRan10
namespace Go.Proofs.Ytnmcnniilihecaa.bulkTurn
open Go.ChangeShapes Go.WideShapes Go.ChangeAt Go.RowKit Go.Deep
open Go.ChangeMaps (open_string shut_string)
set_option linter.unusedVariables false

theorem own : ownKnob Try.prog.godebug = none := by kernel_rfl
theorem laidOut : laidOutB Try.prog = true := by kernel_rfl

theorem erase_snoc {L : List Int} {y : Int} (h : y ∉ L) : (L ++ [y]).erase y = L := by
  rw [List.erase_append_right _ h, List.erase_cons_head, List.append_nil]
/-- All workers are free again: each that runs was one of those that were freed. -/
theorem run_nil {n k : Nat} {T : List Int} {S : BU} (h : S.Of n k T) (hz : ∀ z ∈ S.run, z ∉ T) : S.run = [] := by
  cases hr : S.run with
  | nil => rfl
  | cons y l =>
    have hy : y ∈ S.run := by rw [hr]; simp
    exact (hz y hy (h.ids y (.inl hy))).elim

set_option maxRecDepth 100000 in
set_option maxHeartbeats 2000000 in
theorem walk (w : World) (c0 : Array Value) (w0 : Flat [.int .u8, .int .u8] c0.toList) (a1 : Option Addr) (l1 k1 : Nat) (L1 : List (List Value)) (w1 : SliceIn w [.int .i64, .int .i64] 16 a1 l1 k1 L1) :
    Calls Try.prog 6 #[.agg c0, .slice a1 l1 k1] w fun e w' => e = .returned (.bool true) ∧ Below w.heap.size w w' := by
  obtain ⟨m, q, rfl, hm0, hq0⟩ := w0.two
  have hm : 0 ≤ m ∧ m ≤ 255 := u8_wf hm0
  have hq : 0 ≤ q ∧ q ≤ 255 := u8_wf hq0
  have hml := w1.2.2.2.2.1
  have hlk := w1.2.2.1
  have hLl := w1.1
  unfold maxLen at hml
  have HS := Lib.hid w1
  have HM := Lib.hid hm
  have HQ := Lib.hid hq
  clear w0 w1 hm0 hq0 hm hq
  have b0 := below_alloc w (.cells #[.int .u8 m, .int .u8 q] 43)
  have e0 : (w.alloc (.cells #[.int .u8 m, .int .u8 q] 43)).heap[w.heap.size]? = some (vobj 43 [.int .u8 m, .int .u8 q]) := heap_alloc_at w _
  generalize hW : w.alloc (.cells #[.int .u8 m, .int .u8 q] 43) = wx at *
  have B0 := Lib.hid b0
  have E0 := Lib.hid e0
  clear b0 e0
  go_enter Try.func6, Try.ntmps6
  go_wp2_with fail
  refine (awake_any _).mono ?_
  rintro r wa ⟨rfl, ba⟩
  have e1 : wa.heap[w.heap.size]? = some (vobj 43 [.int .u8 m, .int .u8 q]) := kb_below E0.out ba
  have c0 : wa.cell? ⟨w.heap.size, 0, none⟩ = some (.int .u8 m) := vobj_cell e1 rfl
  have c1 : wa.cell? ⟨w.heap.size, 1, none⟩ = some (.int .u8 q) := vobj_cell e1 rfl
  have BA := Lib.hid (B0.out.trans (ba.mono B0.out.size))
  clear ba e1 hW B0 E0
  go_wp2_with fail
  refine (conf_any true m q wa HM.out HQ.out).mono ?_
  rintro r wb ⟨c, rfl, n, k, hc, hn1, _, _, bb⟩
  have HC := Lib.hid hc
  have BB := Lib.hid (BA.out.trans (bb.mono BA.out.size))
  clear hc bb BA c0 c1
  go_wp2_with fail
  refine (ran_any w c n k a1 l1 k1 L1 wb HC.out HS.out BB.out).mono ?_
  rintro r w1 ⟨b, rfl, f, S0, hof, o1, _⟩
  have O1 := Lib.hid o1
  have OF := Lib.hid hof
  clear o1 hof BB
  go_wp2_with fail
  refine (ou_waiting w b f S0 w1 O1.out S0.wait rfl).mono ?_
  rintro r w3 ⟨A3, k3, c3, rfl, i3, b3⟩
  have O3 := Lib.hid (O1.out.below b3)
  have I3 := Lib.hid i3
  have hk3 : S0.wait.length = k3 := i3.row.2.1
  have hk8 : k3 ≤ 8 := by have := O1.out.bul.ok.lw; have := O1.out.bul.ok.q8; omega
  have HK := Lib.hid hk3
  obtain ⟨W, hW⟩ : ∃ W, S0.wait = W := ⟨_, rfl⟩
  rw [hW] at HK I3
  have HWS := Lib.hid hW
  obtain ⟨T, hT⟩ : ∃ T, (L1.map idOf).take 100 = T := ⟨_, rfl⟩
  have HTT := Lib.hid hT
  rw [hT] at OF
  clear i3 b3 O1 hk3 hW hT
  go_wp2
  go_loopg [8, 9] 200 (fun g v8 v9 wr => ∃ (i j : Nat) (A8 : Option Addr) (c8 : Nat) (S : BU), i + g = 200 ∧ v9 = .int .i64 i ∧ v8 = .slice A8 j c8 ∧ j ≤ k3 ∧ Ints wr w.heap.size (.slice A8 j c8) (W.take j) ∧ OwU w wr b f S ∧ S.Of n k T ∧ S.wait = W.drop j ∧ ((S.run.length < n ∧ i ≤ j + 1) ∨ (i = 0 ∧ j = 0)) ∧ Ints wr w.heap.size (.slice A3 k3 c3) W ∧ (∀ g, (Value.slice A3 k3 c3).ownBlock = some g → (Value.slice A8 j c8).ownBlock ≠ some g))
  case atStart => exact ⟨0, 0, none, 0, S0, by omega, rfl, rfl, by omega, by simpa using Ints.nil _ _, O3.out, OF.out, by rw [HWS.out]; rfl, .inr ⟨rfl, rfl⟩, I3.out, fun g _ e => by cases e⟩
  case round =>
    obtain ⟨i, j, A8, c8, S, hg, rfl, rfl, hj, i8, o, of, hw, hor, iw, ap⟩ := hrel
    have G := Lib.hid hg
    have I8 := Lib.hid i8
    have O := Lib.hid o
    have OFS := Lib.hid of
    have HW := Lib.hid hw
    have IW := Lib.hid iw
    have OR := Lib.hid hor
    have AP := Lib.hid ap
    have hi9 : i ≤ 9 := by omega
    clear hg i8 o of hw hor iw ap O3 I3 OF
    by_cases hjk : j < k3
    · have hi1 : (i : Int) < 200 := by omega
      have hj1 : (j : Int) < k3 := by omega
      have hjW : j < W.length := by rw [HK.out]; exact hjk
      have hdrop : W.drop j = W.getD j 0 :: W.drop (j + 1) := by rw [List.drop_eq_getElem_cons hjW]; simp [List.getD, hjW]
      have htake := take_next hjW
      obtain ⟨y, hy⟩ : ∃ y, W.getD j 0 = y := ⟨_, rfl⟩
      rw [hy] at hdrop htake
      have HWD : Hid (S.wait = y :: W.drop (j + 1)) := Lib.hid (by rw [HW.out, hdrop])
      have HTK := Lib.hid htake
      have hyw : wf64 y := O.out.bul.ok.ww y (by rw [HWD.out]; simp)
      have HYW := Lib.hid hyw
      clear hjW hdrop htake hy hyw
      by_cases hr : S.run.length < n
      · have hrm : S.run.length < S.most := by rw [OFS.out.most]; exact hr
        have hny : y ∉ S.run := O.out.bul.ok.apart y (by rw [HWD.out]; simp)
        have HNY := Lib.hid hny
        have HRM := Lib.hid hrm
        have HR := Lib.hid hr
        clear hrm hny hr
        go_wp2_with fail
        refine (ou_pick w b f S wr O.out y true (S.turn y (W.drop (j + 1))) (by simp [BU.first, HWD.out, HRM.out]) (by simp [BU.picked, HWD.out, HRM.out]) (by simp [BU.pick, HWD.out, HRM.out])).mono ?_
        rintro r w4 ⟨rfl, o4, f4⟩
        have O4 := Lib.hid o4
        have I4 := Lib.hid (O.out.bul.ints f4 I8.out)
        have J4 := Lib.hid (O.out.bul.ints f4 IW.out)
        clear o4 f4
        go_wp2_with (first
          | (at_builtin
             refine wpList_app (base := w.heap.size) rfl (.tmp 42) (.tmp 44) rfl rfl rfl (I4.out.alloc _) (row_one w4 y HYW.out) rfl (by have := List.length_take_le j W; omega) (by have := O4.out.low.size; simp; omega) ?_
             intro v5 w5 own5 gr5 ob5
             obtain ⟨A5, n5, c5, hv, _, hnl, _, _⟩ := own_row' own5
             subst hv
             have hn5 : n5 = j + 1 := (by have h1 := hnl.out; have h2 := I4.out.row.2.1; simp at h1 h2; omega)
             subst hn5
             have O5 := Lib.hid ((O4.out.below (below_alloc _ _)).grown (I4.out.alloc _) gr5)
             have J5 := Lib.hid (Ints.grown (J4.out.alloc _) gr5 AP.out)
             have OWN5 : Hid (Ints w5 w.heap.size (.slice A5 (j + 1) c5) (W.take (j + 1))) := Lib.hid (by rw [HTK.out]; exact own5)
             have AP5 : Hid (∀ g, (Value.slice A3 k3 c3).ownBlock = some g → (Value.slice A5 (j + 1) c5).ownBlock ≠ some g) := Lib.hid (fun g hg e => by
               rcases ob5 with ob5 | ob5
               · exact AP.out g hg (ob5.symm.trans e)
               · have h1 := (J4.out.1.lt g hg).2
                 rw [ob5] at e
                 injection e with e
                 simp at e
                 omega)
             clear own5 gr5 ob5 hnl))
        refine (ou_free w b f (S.turn y (W.drop (j + 1))) y w5 O5.out HYW.out true ⟨S.most, S.que, S.run, W.drop (j + 1)⟩ (by simp [BU.turn]) (by unfold BU.free BU.turn; simp only []; rw [erase_snoc HNY.out])).mono ?_
        rintro r w6 ⟨rfl, o6, f6⟩
        have O6 := Lib.hid o6
        have I6 := Lib.hid (O5.out.bul.ints f6 OWN5.out)
        have J6 := Lib.hid (O5.out.bul.ints f6 J5.out)
        clear o6 f6 O5 OWN5 J5 O4 I4 J4
        go_wp2
        go_roundg (200 - (i + 1))
        case measure => have := G.out; omega
        case rel =>
          refine ⟨i + 1, j + 1, A5, c5, _, by omega, by simp, rfl, by omega, I6.out, O6.out, ⟨OFS.out.most, OFS.out.que, fun z hz => OFS.out.ids z (hz.imp id (fun h => by rw [HWD.out]; exact List.mem_cons_of_mem _ h))⟩, rfl, .inl ⟨HR.out, ?_⟩, J6.out, AP5.out⟩
          rcases OR.out with ⟨_, h⟩ | ⟨h, h'⟩ <;> omega
      · have hrm : ¬ S.run.length < S.most := by rw [OFS.out.most]; exact hr
        obtain ⟨rfl, rfl⟩ : i = 0 ∧ j = 0 := by
          rcases OR.out with ⟨h, _⟩ | h
          · exact (hr h).elim
          · exact h
        have HRM := Lib.hid hrm
        obtain ⟨N, hN⟩ : ∃ N, (if 100 < l1 then 100 else l1) = N := ⟨_, rfl⟩
        have hN' : N ≤ l1 ∧ N ≤ 100 ∧ (N < 100 → N = l1) := by rw [← hN]; split <;> omega
        have hTN : (L1.map idOf).take N = T := by
          rw [← HTT.out]
          by_cases h : N < 100
          · rw [List.take_of_length_le (by simp; omega), List.take_of_length_le (by simp; omega)]
          · rw [show N = 100 by omega]
        have HTN := Lib.hid hTN
        clear hrm hr hN hTN
        go_wp2_with fail
        refine (ou_pick w b f S wr O.out 0 false S (by unfold BU.first; rw [HWD.out]; simp [HRM.out]) (by unfold BU.picked; rw [HWD.out]; simp [HRM.out]) (by unfold BU.pick; rw [HWD.out]; simp [HRM.out])).mono ?_
        rintro r w4 ⟨rfl, o4, f4⟩
        have O4 := Lib.hid o4
        have I4 := Lib.hid (O.out.bul.ints f4 I8.out)
        have J4 := Lib.hid (O.out.bul.ints f4 IW.out)
        have HW0 : Hid (S.wait = W) := Lib.hid (by rw [HW.out]; rfl)
        clear o4 f4 O I8 IW
        go_wp2
        go_loopg [12] N (fun g v12 wq => ∃ (e : Nat) (S' : BU), e + g = N ∧ v12 = .int .i64 e ∧ OwU w wq b f S' ∧ S'.Of n k T ∧ S'.wait = W ∧ (∀ z ∈ S'.run, z ∉ (L1.map idOf).take e) ∧ Ints wq w.heap.size (.slice A8 0 c8) (W.take 0) ∧ Ints wq w.heap.size (.slice A3 k3 c3) W)
        case atStart => exact ⟨0, S, by omega, rfl, O4.out, OFS.out, HW0.out, by simp, I4.out, J4.out⟩
        case round =>
          obtain ⟨e, S', hge, rfl, o', of', hw', hno, i', j'⟩ := hrel
          have GE := Lib.hid hge
          have O' := Lib.hid o'
          have OF' := Lib.hid of'
          have HW' := Lib.hid hw'
          have HNO := Lib.hid hno
          have I' := Lib.hid i'
          have J' := Lib.hid j'
          clear hge o' of' hw' hno i' j' O4 I4 J4
          by_cases hin : e < N
          · have he1 : (e : Int) < l1 := by omega
            have he2 : (e : Int) < 100 := by omega
            obtain ⟨blk, off, kd, z, rfl, q0, q1, hz, hid⟩ := deed_at HS.out (i := e) (by omega)
            have p1 := cell_later O'.out.low q1
            have HZ := Lib.hid hz
            have HD := Lib.hid hid
            clear q0 q1 hz hid
            go_wp2_with fail
            refine (ou_free w b f S' z _ O'.out HZ.out _ (S'.free z) rfl rfl).mono ?_
            rintro r w7 ⟨rfl, o7, f7⟩
            have O7 := Lib.hid o7
            have I7 := Lib.hid (O'.out.bul.ints f7 I'.out)
            have J7 := Lib.hid (O'.out.bul.ints f7 J'.out)
            clear o7 f7 p1
            go_wp2
            go_roundg (N - (e + 1))
            case measure => have := GE.out; omega
            case rel =>
              refine ⟨e + 1, S'.free z, by omega, by simp, O7.out, OF'.out.free z, HW'.out, fun x hx hc => ?_, I7.out, J7.out⟩
              have hx1 := O'.out.bul.ok.nr.mem_erase_iff.1 hx
              rw [List.take_add_one, HD.out] at hc
              rcases List.mem_append.1 hc with hc | hc
              · exact HNO.out x hx1.2 hc
              · simp at hc; exact hx1.1 hc
          · have heN : e = N := by have := GE.out; omega
            have hnil : S'.run = [] := run_nil OF'.out (fun z hz hc => HNO.out z hz (by rw [heN, HTN.out]; exact hc))
            have HNIL := Lib.hid hnil
            clear hnil
            by_cases hl : e < l1
            · have he1 : (e : Int) < l1 := by omega
              have he2 : ¬ (e : Int) < 100 := by omega
              clear heN
              go_wp2
              go_roundg (200 - (0 + 1))
              case measure => have := G.out; omega
              case rel => exact ⟨1, 0, A8, c8, S', by omega, by simp, rfl, by omega, I'.out, O'.out, OF'.out, HW'.out, .inl ⟨by rw [HNIL.out]; exact hn1, by omega⟩, J'.out, AP.out⟩
            · have he1 : ¬ (e : Int) < l1 := by omega
              clear heN
              go_wp2
              go_roundg (200 - (0 + 1))
              case measure => have := G.out; omega
              case rel => exact ⟨1, 0, A8, c8, S', by omega, by simp, rfl, by omega, I'.out, O'.out, OF'.out, HW'.out, .inl ⟨by rw [HNIL.out]; exact hn1, by omega⟩, J'.out, AP.out⟩
    · obtain rfl : j = k3 := by omega
      have hi1 : (i : Int) < 200 := by omega
      have hwn : S.wait = [] := by rw [HW.out]; exact List.drop_of_length_le (by rw [HK.out]; omega)
      have htk : W.take j = W := List.take_of_length_le (by rw [HK.out]; omega)
      rw [htk] at I8
      have HWN := Lib.hid hwn
      clear hwn htk
      go_wp2_with fail
      refine (ou_pick w b f S wr O.out 0 false S (by simp [BU.first, HWN.out]) (by simp [BU.picked, HWN.out]) (by simp [BU.pick, HWN.out])).mono ?_
      rintro r w4 ⟨rfl, o4, f4⟩
      have O4 := Lib.hid o4
      have I4 := Lib.hid (O.out.bul.ints f4 I8.out)
      have J4 := Lib.hid (O.out.bul.ints f4 IW.out)
      clear o4 f4 O I8 IW
      go_wp2_with fail
      have hs := same_any A8 A3 j c8 j c3 W W w4 I4.out.row.1 I4.out.row.2.1 J4.out.row.1 J4.out.row.2.1
      rw [show decide (W = W) = true by simp] at hs
      refine hs.mono ?_
      clear hs
      rintro r w5 ⟨rfl, a5⟩
      have O5 := Lib.hid (O4.out.ali a5)
      clear a5 O4 I4 J4
      go_wp2_with fail
      refine (ou_waiting w b f S w5 O5.out [] HWN.out).mono ?_
      rintro r w6 ⟨A6, k6, c6, rfl, i6, b6⟩
      have hk6 : k6 = 0 := i6.row.2.1.symm
      subst hk6
      have O6 := Lib.hid (O5.out.below b6)
      clear i6 b6 O5
      go_wp2
      go_ret
      exact ⟨rfl, O6.out.low⟩

set_option maxRecDepth 100000 in
theorem lifted (os : Os) (started : os.Started) (H : Type) (enc : TypeId × Value → H) :
    ReturnsInHanded {} Try.checked os 6 .any (Rows.bulkTurnSpec.pre6 enc Try.prog Try.f6 Rows.bulkTurnRow.domain false) (Rows.bulkTurnSpec.post enc Try.prog Try.f6 false true false false) := by
  refine returnsInHanded_of_change_sized (C := Try.checked) own started (by kernel_rfl) Try.func6
    (ChangeSpec.witness6 (enc := enc) (C := Try.checked) false ⟨#[], #[.agg #[.int .u8 0, .int .u8 0], .slice none 0 0], []⟩ 8 (by kernel_rfl) (by kernel_rfl) (by kernel_rfl) (by kernel_rfl)) ?_
  intro W base args ds gs before hval0 hW hcnd hsz0 _
  have hval : ∀ (j : Nat) t v, Try.f6.params[j]? = some t → args[j]? = some v → Value.okWide Try.prog W .any base t v := hval0
  have hsz : (DataW.weightsEach Try.prog (Try.f6.params.toList ++ Rows.bulkTurnSpec.plain.varTypes Try.prog) (ds ++ gs)).all (· ≤ reachBytes) = true := hsz0
  have hW' := hW
  obtain ⟨p, q, hA0, hV, rfl, hfz, hnd⟩ := hW
  have hA : DataW.TrodAll enc Try.prog W 0 (fun _ => true) true Try.f6.params.toList args.toList ds p := hA0
  rw [Try.params6] at hA hval hsz
  have hAk := hA
  obtain ⟨v0, vs0, d0, ds0, p0, q0, hargs, rfl, rfl, h0, r0⟩ := trodAll_cons hA
  obtain ⟨v1, vs1, d1, ds1, p1, q1, rfl, rfl, rfl, h1, r1⟩ := trodAll_cons r0
  obtain ⟨rfl, rfl, rfl⟩ := trodAll_nil r1
  obtain rfl : args = #[v0, v1] := by cases args; simp_all
  obtain ⟨rfl, rfl⟩ := trodVars_none hV
  obtain ⟨c0, rfl, w0⟩ := open_flat (ks := [.int .u8, .int .u8]) 8 (by kernel_rfl) (by kernel_rfl) (hval 0 43 v0 rfl rfl) h0
  obtain ⟨a1, l1, k1, L1, rfl, w1⟩ := open_slice_flat (ks := [.int .i64, .int .i64]) (bytes := 16) 8 Try.underlying25 (by kernel_rfl) (by kernel_rfl) (by decide) (by kernel_rfl) (hval 1 25 v1 rfl rfl) h1 (fun elems rest hd => by subst hd; exact sized_slice hsz (j := 1) (t := 25) (e := 36) rfl rfl Try.underlying25)
  clear hA0 hval0 hsz0
  refine (walk W c0 w0 a1 l1 k1 L1 w1).mono fun e W' ⟨he, bel⟩ => ?_
  subst he
  exact ⟨_, rfl, _, _, _, [], _, [], hW', trodAll_mk1 (shut_bool Try.underlying4 _), trodAll_below laidOut bel _ _ _ _ (by kernel_rfl) hAk, rfl, bel.frame _, fun h => by cases h⟩

theorem over : Rows.bulkTurnRow.holds Try.pinned (OpenSpec.ofChange Rows.bulkTurnSpec) :=
  OpenClaim.holds_of_wide 6 Try.f6 rfl rfl rfl rfl rfl rfl rfl ⟨rfl, rfl, rfl, rfl, rfl⟩ rfl rfl rfl rfl rfl (by kernel_rfl) Try.func6 (by kernel_rfl)
    (of_decide_eq_true (by kernel_rfl)) (by unfold Func.isWrapper; first | (rw [if_pos (by decide +kernel)]; kernel_rfl) | (rw [if_neg (by decide +kernel)]; exact ⟨rfl, rfl⟩))
    (fun os started H enc _ => lifted os started H enc)

theorem proved : Rows.BulkTurnSaid := over
#print axioms proved
end Go.Proofs.Ytnmcnniilihecaa.bulkTurn
