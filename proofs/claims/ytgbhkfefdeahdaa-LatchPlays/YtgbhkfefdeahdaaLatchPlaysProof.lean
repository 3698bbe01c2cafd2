/- What is proved: LatchPlays of porpoiselaw11 answers true for every input, and leaves its arguments as they were; conditions: those of the given row alone. -/
import Derived.Test.YtgbhkfefdeahdaaKit
import Derived.Test.YtgbhkfefdeahdaaLaw11
import Derived.Test.YtgbhkfefdeahdaaRef11b
import Derived.Deep.RegionHeld3
namespace Go.Proofs.Ytgbhkfefdeahdaa.latchPlays
open Go.ChangeShapes Go.WideShapes Go.ChangeAt Go.RowKit Go.Deep
open Go.ChangeMaps (open_string shut_string)
set_option linter.unusedVariables false

theorem own : ownKnob Try.prog.godebug = none := by kernel_rfl
theorem laidOut : laidOutB Try.prog = true := by kernel_rfl

theorem latF_step {b m n j : Nat} {v v' : Value} (h : v'.ownBlock = v.ownBlock ∨ ∃ j, v'.ownBlock = some j ∧ n ≤ j) (hj : LatF b m v' j) : LatF b m v j ∨ n ≤ j := by
  rcases hj with e | e | e
  · exact .inl (.inl e)
  · exact .inl (.inr (.inl e))
  · rcases h with h | ⟨k, h, hk⟩
    · exact .inl (.inr (.inr (by rw [← h]; exact e)))
    · rw [h] at e
      injection e with e
      exact .inr (by omega)
/-- A log, and the document's list, with the same outcomes. -/
structure Sy (w0 w : World) (b m : Nat) (v u : Value) (L : List Ot) : Prop where
  ow : OwL w0 w b m v L
  row : OutR w w0.heap.size u L
  apart : ∀ j, u.ownBlock = some j → ¬ LatF b m v j
theorem Sy.below {w0 w w' : World} {b m : Nat} {v u : Value} {L : List Ot} (h : Sy w0 w b m v u L) (hb : Below w.heap.size w w') : Sy w0 w' b m v u L := ⟨h.ow.below hb, OwnR.below h.row hb, h.apart⟩

set_option maxRecDepth 100000 in
set_option maxHeartbeats 8000000 in
theorem walk (w : World) (a0 : Option Addr) (l0 k0 : Nat) (L0 : List (List Value)) (w0 : SliceIn w [.int .i64, .int .i64, .int .i64, .int .i64, .int .u64] 40 a0 l0 k0 L0) (a1 : Int) (w1 : (Lit.int .i64 a1).wf = true) (a2 : Int) (w2 : (Lit.int .i64 a2).wf = true) :
    Calls Try.prog 3 #[.slice a0 l0 k0, .int .i64 a1, .int .i64 a2] w fun e w' => e = .returned (.bool true) ∧ Below w.heap.size w w' := by
  obtain ⟨V, hrow, hfit, _, _⟩ := outs_in w0
  obtain ⟨n, hn1, hn2, hn3, _⟩ := cap_at l0 V hrow.1
  have hml := hrow.2.1
  unfold maxLen at hml
  obtain ⟨fs, hu⟩ := undO
  have HU := Lib.hid hu
  have HR := Lib.hid hrow
  have HF := Lib.hid hfit
  have HZ : Hid (wf64 a1) := Lib.hid (bounds_i64 w1)
  clear w0 w1 w2 hrow hfit hu
  go_enter Try.func3, Try.ntmps3
  go_wp2_with (first
    | (go_at_call 9; refine (awake_any w).mono ?_; rintro r wa ⟨rfl, ba⟩; have LA := Lib.hid ba; clear ba)
    | (go_at_call 10; refine (ol_new wa wa (Below.refl _ _)).mono ?_; rintro r w1 ⟨b, rfl, m, h1, _⟩; have H1 := Lib.hid h1; clear h1))
  go_loopg [9, 10] n (fun q v9 v10 wr => ∃ (i : Nat) (v : Value) (L : List Ot), i + q = n ∧ v10 = .int .i64 i ∧ L.length ≤ i ∧ Sy wa wr b m v v9 L)
  case atStart => exact ⟨0, .slice none 0 0, [], by omega, rfl, by simp, H1.out, OwnR.nil _ _ _, fun j hj => by cases hj⟩
  case round =>
    obtain ⟨i, v, L, hq, rfl, hll, hsy⟩ := hrel
    have G := Lib.hid hq
    have LL := Lib.hid hll
    have SY := Lib.hid hsy
    clear hq hll hsy
    by_cases hin : i < n
    · have hi1 : (i : Int) < l0 := by omega
      have hi2 : (i : Int) < 100 := by omega
      obtain ⟨rb, off, x, rfl, hx, hrg⟩ := (HR.out.later LA.out).out (i := i) (by omega)
      have RA := Lib.hid hrg
      have RG := Lib.hid (range_later hrg SY.out.ow.low)
      have hfx := HF.out x (List.mem_of_getElem? hx)
      have HFX := Lib.hid hfx
      have hem := emit_lat wa.heap.size b m v L x wr SY.out.ow.lat hfx (by have := LL.out; omega) SY.out.ow.low.size
      have hre := fun (wy : World) (u : Value) (h : OutR wy wa.heap.size u L) (hb : wa.heap.size ≤ wy.heap.size) => remit_any wa.heap.size u x L wy h hb hfx (by have := LL.out; omega)
      have hel := emit_len L x
      generalize adds L x = t at hem hre
      generalize emit L x = L' at hem hre hel
      have HEM := Lib.hid hem
      have HRE := Lib.hid hre
      have LL' : Hid (L'.length ≤ i + 1) := Lib.hid (by have := LL.out; omega)
      obtain ⟨y, hy⟩ : ∃ y, ofL L' a1 = y := ⟨_, rfl⟩
      obtain ⟨h, hh⟩ : ∃ h, hasL L' a1 = h := ⟨_, rfl⟩
      have HY := Lib.hid hy
      have HH := Lib.hid hh
      clear hrg hx hem hre hel hfx hy hh
      go_wp2_with (first
        | (refine wpList_load_out rfl _ rfl rb (off + i * 5) rfl x R2.out ?_)
        | (refine wpList_load_out rfl _ rfl rb (off + i * 5) rfl x RG.out ?_)
        | (go_at_call 11; refine HEM.out.mono ?_; rintro r w2 ⟨rfl, v2, l2, f2, s2⟩; have O2 := Lib.hid (SY.out.ow.after f2 l2); have U2 := Lib.hid (OwL.beside f2 SY.out.row SY.out.apart);
           have N2 : Hid (∀ j, (_ : Value).ownBlock = some j → ¬ LatF b m v2 j) := Lib.hid (fun j hj hc => by rcases latF_step s2 hc with h | h; exact SY.out.apart j hj h; have := (SY.out.row.1.lt j hj).2; omega);
           have R2 := Lib.hid (range_later RA.out O2.out.low);
           clear l2 f2 s2)
        | (go_at_call 12; refine (HRE.out w2 u9 U2.out O2.out.low.size).mono ?_; rintro r w3 ⟨u3, rfl, o3, b3, n3⟩;
           have S3 : Hid (Sy wa w3 b m v2 u3 L') := Lib.hid ⟨O2.out.below b3, o3, (fun j hj hc => by rcases n3 with e | h; (rw [e] at hj; exact N2.out j hj hc); have h1 := h j hj; have h2 := (O2.out.lat.low j hc).2; omega)⟩;
           obtain ⟨A3, k3, c3, hu3, _, nl3, _, _⟩ := o3.row'; subst hu3; clear o3 b3 n3 R2 U2 N2 O2)
        | (go_at_call 13; refine (of_lat wa.heap.size b m v2 L' a1 w3 S3.out.ow.lat HZ.out).mono ?_; rw [HY.out, HH.out]; rintro r w4 ⟨rfl, b4⟩; have S4 := Lib.hid (S3.out.below b4); clear b4; obtain ⟨g4, hg4⟩ : ∃ g4, w4.heap.size = g4 := ⟨_, rfl⟩)
        | (go_at_call 14; refine (rof_any A3 k3 c3 a1 L' w6 S6.out.row.row.1).mono ?_; rw [HY.out, HH.out]; rintro r w7 ⟨rfl, b7⟩; have S7 := Lib.hid (S6.out.below b7); have K7 := Lib.hid (kb_below K6.out b7); clear b7; obtain ⟨g7, hg7⟩ : ∃ g7, w7.heap.size = g7 := ⟨_, rfl⟩)
        | (refine wpList_alloc_agg rfl 29 rfl g7 hg7 Ot.zero.vals (allocO _) ?_; intro w8 h8 l8 t8; have Q8 := Lib.hid h8; have L8 : Hid (Below w7.heap.size w7 w8) := Lib.hid (by rw [hg7]; exact l8); clear h8 l8 t8)
        | (refine wpList_alloc_agg rfl 29 rfl g4 hg4 Ot.zero.vals (allocO _) ?_; intro w5 h5 l5 t5; have Q5 := Lib.hid h5; have L5 : Hid (Below w4.heap.size w4 w5) := Lib.hid (by rw [hg4]; exact l5); clear h5 l5 t5)
        | (refine wpList_store_agg rfl 29 _ _ rfl g7 Ot.zero.vals y.vals rfl rfl ?hz rfl (sizeO _) (Ot.ones_vals _) ?_; (case hz => exact Q8.out); intro w9 h9 f9 t9;
           have b9 : Below w7.heap.size w7 w9 := L8.out.trans (f9.below L8.out.size (fun j hj e => by omega));
           have S9 := Lib.hid (S7.out.below b9); have K9 := Lib.hid (kb_below K7.out b9); have J9 := Lib.hid h9; clear h9 f9 t9 b9)
        | (refine wpList_store_agg rfl 29 _ _ rfl g4 Ot.zero.vals y.vals rfl rfl ?hz rfl (sizeO _) (Ot.ones_vals _) ?_; (case hz => exact Q5.out); intro w6 h6 f6 t6;
           have b6 : Below w4.heap.size w4 w6 := L5.out.trans (f6.below L5.out.size (fun j hj e => by omega));
           have S6 := Lib.hid (S4.out.below b6); have K6 := Lib.hid h6; clear h6 f6 t6 b6))
      have hs : ∀ wx, Below w9.heap.size w9 wx → (wx.cell? ⟨rb, off + i * 5, none⟩ = some (.int .i64 x.id) ∧ wx.cell? ⟨rb, off + i * 5 + 1, none⟩ = some (.int .i64 x.kind) ∧ wx.cell? ⟨rb, off + i * 5 + 2, none⟩ = some (.int .i64 x.cause) ∧ wx.cell? ⟨rb, off + i * 5 + 3, none⟩ = some (.int .i64 x.val) ∧ wx.cell? ⟨rb, off + i * 5 + 4, none⟩ = some (.int .u64 x.tm)) ∧
          (wx.cell? ⟨g4, 0, none⟩ = some (.int .i64 y.id) ∧ wx.cell? ⟨g4, 1, none⟩ = some (.int .i64 y.kind) ∧ wx.cell? ⟨g4, 2, none⟩ = some (.int .i64 y.cause) ∧ wx.cell? ⟨g4, 3, none⟩ = some (.int .i64 y.val) ∧ wx.cell? ⟨g4, 4, none⟩ = some (.int .u64 y.tm)) ∧
          (wx.cell? ⟨g7, 0, none⟩ = some (.int .i64 y.id) ∧ wx.cell? ⟨g7, 1, none⟩ = some (.int .i64 y.kind) ∧ wx.cell? ⟨g7, 2, none⟩ = some (.int .i64 y.cause) ∧ wx.cell? ⟨g7, 3, none⟩ = some (.int .i64 y.val) ∧ wx.cell? ⟨g7, 4, none⟩ = some (.int .u64 y.tm)) := fun wx hb => by
        have hr := range_later (range_later RA.out S9.out.ow.low) hb
        exact ⟨⟨hr 0 _ rfl, hr 1 _ rfl, hr 2 _ rfl, hr 3 _ rfl, hr 4 _ rfl⟩, cellsO (kb_below K9.out hb), cellsO (kb_below J9.out hb)⟩
      have hfy : y.Fits := by rw [← HY.out]; exact ofL_fits S9.out.ow.lat.fits
      have hsm := sameO y y hfy hfy
      rw [decide_eq_true rfl] at hsm
      unfold aggV Ot.vals at hsm
      obtain ⟨my, hmy⟩ : ∃ my, x.may = my := ⟨_, rfl⟩
      have hm1 : ∀ wx, Calls Try.prog 15 #[.agg #[.int .i64 x.id, .int .i64 x.kind, .int .i64 x.cause, .int .i64 x.val, .int .u64 x.tm]] wx fun r w' => r = .returned (.bool my) ∧ Below wx.heap.size wx w' := fun wx => by
        rw [← hmy]
        exact may_any x wx
      have hm2 : ∀ wx, Calls Try.prog 16 #[.agg #[.int .i64 x.id, .int .i64 x.kind, .int .i64 x.cause, .int .i64 x.val, .int .u64 x.tm]] wx fun r w' => r = .returned (.bool my) ∧ Below wx.heap.size wx w' := fun wx => by
        rw [← hmy]
        exact rmay_any x wx
      have hal : ∀ wx, Below w9.heap.size w9 wx → Calls Try.prog 18 #[.pointer (some ⟨b, 0, none⟩)] wx fun r w' => ∃ u, r = .returned u ∧ OutR w' wx.heap.size u L' ∧ Below wx.heap.size wx w' := fun wx hb => all_lat wa.heap.size b m v2 L' wx (S9.out.ow.lat.below hb) (by have := LL'.out; omega)
      have hsa : ∀ (A : Option Addr) (k c : Nat) wx, RowR orec wx A k L' → Below w9.heap.size w9 wx → Calls Try.prog 17 #[.slice A k c, .slice A3 k3 c3] wx fun r w' => r = .returned (.bool true) ∧ Below wx.heap.size wx w' := fun A k c wx hr hb => by
        have := rsame_any A A3 k c k3 c3 L' L' wx hr (S9.out.row.row.1.later hb) S9.out.ow.lat.fits S9.out.ow.lat.fits
        rwa [decide_eq_true rfl] at this
      have hbb : ∀ t : Bool, (t != t) = false := fun t => by simp
      have HS := Lib.hid hs
      have M1 := Lib.hid hm1
      have M2 := Lib.hid hm2
      have AL := Lib.hid hal
      have SA := Lib.hid hsa
      have D0 : Hid (Below w9.heap.size w9 w9.drew) := Lib.hid (ali_below (drew_ali _))
      clear hs hfy hm1 hm2 hal hsa hmy HEM HRE HY HH S3 S4 S6 S7 K6 K7 K9 J9 RG RA H1 SY Q5 Q8 L5 L8 hg4 hg7
      go_region_held3 (fun wx => (wx.cell? ⟨rb, off + i * 5, none⟩ = some (.int .i64 x.id) ∧ wx.cell? ⟨rb, off + i * 5 + 1, none⟩ = some (.int .i64 x.kind) ∧ wx.cell? ⟨rb, off + i * 5 + 2, none⟩ = some (.int .i64 x.cause) ∧ wx.cell? ⟨rb, off + i * 5 + 3, none⟩ = some (.int .i64 x.val) ∧ wx.cell? ⟨rb, off + i * 5 + 4, none⟩ = some (.int .u64 x.tm)) ∧
          (wx.cell? ⟨g4, 0, none⟩ = some (.int .i64 y.id) ∧ wx.cell? ⟨g4, 1, none⟩ = some (.int .i64 y.kind) ∧ wx.cell? ⟨g4, 2, none⟩ = some (.int .i64 y.cause) ∧ wx.cell? ⟨g4, 3, none⟩ = some (.int .i64 y.val) ∧ wx.cell? ⟨g4, 4, none⟩ = some (.int .u64 y.tm)) ∧
          (wx.cell? ⟨g7, 0, none⟩ = some (.int .i64 y.id) ∧ wx.cell? ⟨g7, 1, none⟩ = some (.int .i64 y.kind) ∧ wx.cell? ⟨g7, 2, none⟩ = some (.int .i64 y.cause) ∧ wx.cell? ⟨g7, 3, none⟩ = some (.int .i64 y.val) ∧ wx.cell? ⟨g7, 4, none⟩ = some (.int .u64 y.tm)))
        (first
          | with_reducible exact HS.out _ D0.out
          | with_reducible exact HS.out _ t1
          | with_reducible exact HS.out _ t2
          | with_reducible exact HS.out _ t3
          | with_reducible exact HS.out _ t4)
        (first
          | (go_at_call 17; refine (SA.out A5 k5 c5 _ r5 t3).mono ?_; rintro r wS ⟨rfl, bS⟩; have t4 := t3.trans (bS.mono t3.size))
          | (go_at_call 18; refine (AL.out _ t2).mono ?_; rintro r wL ⟨u5, rfl, o5, bL⟩; obtain ⟨A5, k5, c5, hu5, r5, _, _, _⟩ := o5.row'; subst hu5; have t3 := t2.trans (bL.mono t2.size))
          | (go_at_call 16; refine (M2.out _).mono ?_; rintro r wN ⟨rfl, bN⟩; have t2 := t1.trans (bN.mono t1.size))
          | (go_at_call 15; refine (M1.out _).mono ?_; rintro r wM ⟨rfl, bM⟩; have t1 := D0.out.trans (bM.mono D0.out.size)))
      have SE := Lib.hid (S9.out.below t4)
      clear t1 t2 t3 t4 bM bN bL bS o5 r5 S9 HS M1 M2 AL SA
      go_wp2
      go_roundg (n - (i + 1))
      case measure => have := G.out; omega
      case rel => exact ⟨i + 1, v2, L', by omega, by simp, LL'.out, SE.out⟩
    · have hi : i = n := by have := G.out; omega
      subst hi
      obtain ⟨A9, n9, c9, hu9, r9, nl9, nc9, _⟩ := SY.out.row.row'
      subst hu9
      obtain ⟨k, hk, hcut, hdrop⟩ := cut_at a2 n9
      obtain ⟨Ad, hd, rd⟩ := run_slice_drop (kd := .i64) out_slice sizeOfO r9 nc9 hk
      obtain ⟨q, hq⟩ : ∃ q, n9 - k = q := ⟨_, rfl⟩
      obtain ⟨cq, hcq⟩ : ∃ cq, c9 - k = cq := ⟨_, rfl⟩
      obtain ⟨ki, hki⟩ : ∃ ki : Int, (k : Int) = ki := ⟨_, rfl⟩
      obtain ⟨mx, hmx⟩ : ∃ mx : Int, (if a2 < 0 then (0 : Int) else a2) = mx := ⟨_, rfl⟩
      have hmn : (if (n9 : Int) < mx then (n9 : Int) else mx) = ki := by
        rw [← hmx, ← hki]
        split <;> split at * <;> omega
      rw [hq, hcq, hki] at hd
      rw [hq, hdrop L nl9.out] at rd
      have hlL : L.length ≤ 1000 := by have := LL.out; omega
      have hfL := SY.out.ow.lat.fits
      have hs2 : ∀ wx, Below wr.heap.size wr wx → Calls Try.prog 19 #[.pointer (some ⟨b, 0, none⟩), .int .i64 a2] wx fun r w' => ∃ u, r = .returned u ∧ OutR w' wx.heap.size u (L.drop a2.toNat) ∧ Below wx.heap.size wx w' := fun wx hb => since_lat wa.heap.size b m v L a2 wx (SY.out.ow.lat.below hb) hlL
      have hs3 : ∀ (A : Option Addr) (k c : Nat) wx, RowR orec wx A k (L.drop a2.toNat) → Below wr.heap.size wr wx → Calls Try.prog 17 #[.slice A k c, .slice Ad q cq] wx fun r w' => r = .returned (.bool true) ∧ Below wx.heap.size wx w' := fun A k c wx hr hb => by
        have := rsame_any A Ad k c q cq (L.drop a2.toNat) (L.drop a2.toNat) wx hr (rd.later hb) (fun x hx => hfL x (List.mem_of_mem_drop hx)) (fun x hx => hfL x (List.mem_of_mem_drop hx))
        rwa [decide_eq_true rfl] at this
      have S2 := Lib.hid hs2
      have S3 := Lib.hid hs3
      have D0 : Hid (Below wr.heap.size wr wr.drew) := Lib.hid (ali_below (drew_ali _))
      have hex : ((i : Int) < l0 ∧ ¬ (i : Int) < 100) ∨ ¬ (i : Int) < l0 := by omega
      clear hs2 hs3 rd hq hcq hdrop r9 nc9 nl9 hfL hlL H1 hki hcut hk
      rcases hex with ⟨hi1, hi2⟩ | hi1
      all_goals (
        go_wp2
        go_region_held3 (fun _ => True) (exact trivial)
          (first
            | (go_at_call 17; refine (S3.out A8 n8 c8 _ r8 t2).mono ?_; rintro r wz ⟨rfl, bz⟩; have t3 := t2.trans (bz.mono t2.size))
            | (go_at_call 19; refine (S2.out _ D0.out).mono ?_; rintro r wy ⟨u, rfl, ou, bY⟩; obtain ⟨A8, n8, c8, hu8, r8, _, _, _⟩ := ou.row'; subst hu8; have t2 := D0.out.trans (bY.mono D0.out.size)))
        go_wp2
        go_ret
        exact ⟨rfl, LA.out.trans ((SY.out.ow.low.trans (t3.mono SY.out.ow.low.size)).mono LA.out.size)⟩)

set_option maxRecDepth 100000 in
theorem lifted (os : Os) (started : os.Started) (H : Type) (enc : TypeId × Value → H) :
    ReturnsInHanded {} Try.checked os 3 .any (Rows.latchPlaysSpec.pre6 enc Try.prog Try.f3 Rows.latchPlaysRow.domain false) (Rows.latchPlaysSpec.post enc Try.prog Try.f3 false true false false) := by
  refine returnsInHanded_of_change_sized (C := Try.checked) own started (by kernel_rfl) Try.func3
    (ChangeSpec.witness6 (enc := enc) (C := Try.checked) false ⟨#[], #[.slice none 0 0, .int .i64 0, .int .i64 0], []⟩ 8 (by kernel_rfl) (by kernel_rfl) (by kernel_rfl) (by kernel_rfl)) ?_
  intro W base args ds gs before hval0 hW hcnd hsz0 _
  have hval : ∀ (j : Nat) t v, Try.f3.params[j]? = some t → args[j]? = some v → Value.okWide Try.prog W .any base t v := hval0
  have hsz : (DataW.weightsEach Try.prog (Try.f3.params.toList ++ Rows.latchPlaysSpec.plain.varTypes Try.prog) (ds ++ gs)).all (· ≤ reachBytes) = true := hsz0
  have hW' := hW
  obtain ⟨p, q, hA0, hV, rfl, hfz, hnd⟩ := hW
  have hA : DataW.TrodAll enc Try.prog W 0 (fun _ => true) true Try.f3.params.toList args.toList ds p := hA0
  rw [Try.params3] at hA hval hsz
  have hAk := hA
  obtain ⟨v0, vs0, d0, ds0, p0, q0, hargs, rfl, rfl, h0, r0⟩ := trodAll_cons hA
  obtain ⟨v1, vs1, d1, ds1, p1, q1, rfl, rfl, rfl, h1, r1⟩ := trodAll_cons r0
  obtain ⟨v2, vs2, d2, ds2, p2, q2, rfl, rfl, rfl, h2, r2⟩ := trodAll_cons r1
  obtain ⟨rfl, rfl, rfl⟩ := trodAll_nil r2
  obtain rfl : args = #[v0, v1, v2] := by cases args; simp_all
  obtain ⟨rfl, rfl⟩ := trodVars_none hV
  obtain ⟨a0, l0, k0, L0, rfl, w0⟩ := open_slice_flat (ks := [.int .i64, .int .i64, .int .i64, .int .i64, .int .u64]) (bytes := 40) 8 Try.underlying22 (by kernel_rfl) (by kernel_rfl) (by decide) (by kernel_rfl) (hval 0 22 v0 rfl rfl) h0 (fun elems rest hd => by subst hd; exact sized_slice hsz (j := 0) (t := 22) (e := 29) rfl rfl Try.underlying22)
  obtain ⟨a1, rfl, rfl, rfl, w1⟩ := open_int Try.underlying3 (hval 1 3 v1 rfl rfl) h1
  obtain ⟨a2, rfl, rfl, rfl, w2⟩ := open_int Try.underlying3 (hval 2 3 v2 rfl rfl) h2
  clear hA0 hval0 hsz0
  refine (walk W a0 l0 k0 L0 w0 a1 w1 a2 w2).mono fun e W' ⟨he, bel⟩ => ?_
  subst he
  exact ⟨_, rfl, _, _, _, [], _, [], hW', trodAll_mk1 (shut_bool Try.underlying4 _), trodAll_below laidOut bel _ _ _ _ (by kernel_rfl) hAk, rfl, bel.frame _, fun h => by cases h⟩

theorem over : Rows.latchPlaysRow.holds Try.pinned (OpenSpec.ofChange Rows.latchPlaysSpec) :=
  OpenClaim.holds_of_wide 3 Try.f3 rfl rfl rfl rfl rfl rfl rfl ⟨rfl, rfl, rfl, rfl, rfl⟩ rfl rfl rfl rfl rfl (by kernel_rfl) Try.func3 (by kernel_rfl)
    (of_decide_eq_true (by kernel_rfl)) (by unfold Func.isWrapper; first | (rw [if_pos (by decide +kernel)]; kernel_rfl) | (rw [if_neg (by decide +kernel)]; exact ⟨rfl, rfl⟩))
    (fun os started H enc _ => lifted os started H enc)

theorem proved : Rows.LatchPlaysSaid := over
#print axioms proved
end Go.Proofs.Ytgbhkfefdeahdaa.latchPlays
