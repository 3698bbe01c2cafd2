/- Layer 15: the document's Outs. Written by wip/tools/gen_ref15d.py. -/
import Derived.Test.YtpfmjocpgnoepaaLaw15
import Derived.Test.YtpfmjocpgnoepaaRef13d
import Derived.Deep.DeepCutAuto
namespace Go.Proofs.Ytpfmjocpgnoepaa
set_option linter.unusedVariables false
open Go.ChangeShapes Go.WideShapes Go.ChangeAt Go.RowKit

theorem toldL_split {zs : List Int} {ms : List P2} {vs : List Int} (h : splitY zs ms vs = true) (x : Ot) : toldL x (splitL zs ms vs) = ms.map (fun p => ⟨p.a, x.kind, x.cause, vs.getD p.b.toNat 0, x.tm⟩) := by
  rw [splitL_yes h]
  simp [toldL, pairL]
theorem toldL_none {zs : List Int} {ms : List P2} {vs : List Int} (h : splitY zs ms vs = false) (x : Ot) : toldL x (splitL zs ms vs) = [] := by
  rw [splitL_no h]
  rfl
theorem own_off {w w' : World} {base : Nat} {e : TypeId} {v : Value} {V : List Ot} {g : Nat} (h : OwnR orec w base e v V) (hf : Frm (· = g) w w') (hg : ∀ b, v.ownBlock = some b → b ≠ g) : OwnR orec w' base e v V := by
  refine ⟨⟨h.1.1, ?_⟩, h.2⟩
  rcases h.1.2 with h0 | ⟨b, cap, cur, hv, hb, hh, hr⟩
  · exact .inl h0
  · exact .inr ⟨b, cap, cur, hv, hb, by rw [hf.block b (heap_lt hh) (fun hc => hg b (by rw [hv]; rfl) hc)]; exact hh, hr⟩

set_option maxRecDepth 100000 in
set_option maxHeartbeats 4000000 in
theorem routs_one (A : Option Addr) (n c : Nat) (M : Option Addr) (m d : Nat) (K : CN) (zs : List Int) (ms : List P2) (kind : Int) (B : Option Addr) (k e : Nat) (vs : List Int) (t : Int) (w : World) (h : Bat w A n c M m d zs ms) (hv : RowR irec w B k vs) (hm : m ≤ 1000) (hk : kind = 1) (hy : splitY zs ms vs = true) :
    Calls Try.prog 26 #[callV A n c M m d K, .int .i64 kind, .slice B k e, .int .u64 t] w fun r w' => ∃ P q f, r = .returned (.slice P q f) ∧ RowR orec w' P q (ms.map (fun p => (⟨p.a, kind, 0, vs.getD p.b.toNat 0, t⟩ : Ot))) ∧ Below w.heap.size w w' := by
  have e1 : (kind != 1) = false := by simp [hk]
  have e3 : (kind != 3) = true := by simp [hk]
  have e4 : (kind != 4) = true := by simp [hk]
  clear hk
  obtain ⟨W, hW⟩ : ∃ W, w.alloc (.cells #[.slice A n c, .slice M m d, .int .i64 K.st, .int .i64 K.sp, .int .i64 K.ca, .int .u64 K.tm] 28) = W := ⟨_, rfl⟩
  have hb : Below w.heap.size w W := by rw [← hW]; exact below_alloc w _
  have k0 : W.heap[w.heap.size]? = some (vobj 28 (kvals A n c M m d K)) := by rw [← hW]; exact heap_alloc_at w (vobj 28 (kvals A n c M m d K))
  have HO := Lib.hid (rsplit_any A n c M m d zs ms B k e vs W (h.below hb) (hv.later hb) hm)
  have B0 := Lib.hid hb
  have K0 := Lib.hid k0
  obtain ⟨q0, q1, q2, q3, q4, q5⟩ := kobj_cells k0
  have ML := Lib.hid h.mlen
  have MR0 := Lib.hid h.mr
  have HW := Lib.hid hW
  clear hb k0 h hv q2 q3 q4 q5 hW
  go_enter Try.func26, Try.ntmps26
  go_wp2_with fail
  rw [HW.out]
  refine HO.out.mono ?_
  rintro r V ⟨P, q, f, rfl, hr, hqf, bV⟩
  have B9 := Lib.hid (B0.out.trans (bV.mono B0.out.size))
  have KV := Lib.hid (kb_below K0.out bV)
  have MV := Lib.hid (MR0.out.later B9.out)
  have PV := Lib.hid hr
  have PY := Lib.hid (show valL zs ms vs = ms.map (fun x => vs.getD x.b.toNat 0) by simp [valL, hy])
  rw [hy]
  clear hr bV q0 q1 HO hy
  go_wp2
  go_loopg [12, 9] m (fun g v12 v9 wr => ∃ j : Nat, j + g = m ∧ v12 = .int .i64 j ∧ OwnR orec wr V.heap.size 59 v9 ((ms.take j).map (fun p => (⟨p.a, kind, 0, vs.getD p.b.toNat 0, t⟩ : Ot))) ∧ Below V.heap.size V wr)
  case atStart => exact ⟨0, by omega, rfl, OwnR.nil _ _ _, Below.refl _ _⟩
  case round =>
    obtain ⟨j, hj, rfl, hown, hl⟩ := hrel
    have HJ := Lib.hid hj
    have OW := Lib.hid hown
    have LV := Lib.hid hl
    obtain ⟨x0, x1, x2, x3, x4, x5⟩ := kobj_cells (kb_below KV.out hl)
    have KR := Lib.hid (kb_below KV.out hl)
    have mr := MV.out.later hl
    have pr := PV.out.later hl
    clear hj hown hl x0 x2 x3 x5
    by_cases hlt : j < m
    · have hlt' : (j : Int) < m := by omega
      obtain ⟨b, off, x, rfl, hx, p0, p1⟩ := mr.pair_at hlt
      have HX := Lib.hid hx
      have hql : q = m := by have := PV.out.1; rw [PY.out, List.length_map, ML.out] at this; exact this.symm
      have hjq : (j : Int) < q := by omega
      obtain ⟨pb, po, y, rfl, hy, p2⟩ := pr.int_at (i := j) (by omega)
      have HYY : Hid (y = vs.getD x.b.toNat 0) := Lib.hid (by rw [PY.out, List.getElem?_map, hx] at hy; simpa using hy.symm)
      clear hy pr hql
      clear hx mr p1
      have hsr : V.heap.size ≤ wr.heap.size := LV.out.size
      have SR := Lib.hid hsr
      clear hsr
      have OWB0 : Hid (∀ g, u9.ownBlock = some g → g ≠ wr.heap.size) := Lib.hid (fun g hg => by obtain ⟨cs, hcs⟩ := OW.out.block hg; have := heap_lt hcs; omega)
      go_upto_region 9 with fail
      have hbg : Below wr.heap.size wr (wr.alloc (.cells #[.int .i64 x.a, .int .i64 kind, .int .i64 0, .int .i64 0, .int .u64 t] 59)) := below_alloc wr _
      have kg : (wr.alloc (.cells #[.int .i64 x.a, .int .i64 kind, .int .i64 0, .int .i64 0, .int .u64 t] 59)).heap[wr.heap.size]? = some (vobj 59 (Ot.mk x.a kind 0 0 t).vals) := heap_alloc_at wr _
      have ow : OwnR orec (wr.alloc (.cells #[.int .i64 x.a, .int .i64 kind, .int .i64 0, .int .i64 0, .int .u64 t] 59)) V.heap.size 59 u9 ((ms.take j).map (fun p => (⟨p.a, kind, 0, vs.getD p.b.toNat 0, t⟩ : Ot))) := OW.out.alloc _
      have kx := kb_below KR.out hbg
      have p2' := (World.cell?_of_block (hbg.block _ (cell_lt p2))).trans p2
      have hgw : wr.heap.size ≠ w.heap.size := by have := SR.out; have := heap_lt KV.out; omega
      have hgp : wr.heap.size ≠ pb := by have := cell_lt p2; simp at this; omega
      generalize wr.alloc (.cells #[.int .i64 x.a, .int .i64 kind, .int .i64 0, .int .i64 0, .int .u64 t] 59) = wg at *
      have GB := Lib.hid hbg
      have KG := Lib.hid kg
      have OG := Lib.hid ow
      have KX := Lib.hid kx
      have NGW := Lib.hid hgw
      have NGP := Lib.hid hgp
      obtain ⟨y0, y1, y2, y3, y4, y5⟩ := kobj_cells kx
      clear hbg kg ow kx hgw x1 x4 p0 KR OW y0 y1 y2 y3 y5 hgp p2
      have LN : Hid (((ms.take j).map (fun p => (⟨p.a, kind, 0, vs.getD p.b.toNat 0, t⟩ : Ot))).length + 1 ≤ 1048576) := Lib.hid (by rw [List.length_map, List.length_take]; omega)
      have OWB : Hid (∀ g, u9.ownBlock = some g → g ≠ wr.heap.size) := Lib.hid OWB0.out
      clear OWB0
      go_wp2_with (first
        | (refine wpList_store_one rfl 3 _ _ rfl wr.heap.size 3 59 (Ot.mk x.a kind 0 0 t).vals (.int .i64 y) rfl rfl ?hz (by show 3 < 5; decide) size1i rfl rfl ?_; (case hz => exact KG.out); intro w5 k5 f5 z5; clear z5; 
           have K5 : Hid (w5.heap[wr.heap.size]? = some (vobj 59 (Ot.mk x.a kind 0 y t).vals)) := Lib.hid k5; have F5 := Lib.hid f5; clear k5 f5;
           have FF : Hid (Frm (· = wr.heap.size) wg w5) := Lib.hid (F5.out);
           have LB : Hid (Below V.heap.size V (w5.alloc (.cells #[.int .i64 x.a, .int .i64 kind, .int .i64 0, .int .i64 y, .int .u64 t] 59))) := Lib.hid ((((LV.out.trans (GB.out.mono SR.out)).trans (FF.out.below (by have := SR.out; have := GB.out.size; omega) (fun j hj e => by have := SR.out; omega)))).alloc (by have := SR.out; have := GB.out.size; have := FF.out.size; omega) _);
           have O8 : Hid (OwnR orec (w5.alloc (.cells #[.int .i64 x.a, .int .i64 kind, .int .i64 0, .int .i64 y, .int .u64 t] 59)) V.heap.size 59 u9 ((ms.take j).map (fun p => (⟨p.a, kind, 0, vs.getD p.b.toNat 0, t⟩ : Ot)))) := Lib.hid ((own_off OG.out FF.out OWB.out).alloc _);
           have S8 : Hid (RowR orec (w5.alloc (.cells #[.int .i64 x.a, .int .i64 kind, .int .i64 0, .int .i64 y, .int .u64 t] 59)) (some ⟨w5.heap.size, 0, none⟩) 1 [(⟨x.a, kind, 0, y, t⟩ : Ot)]) := Lib.hid (RowR.one (R := orec) w5 ⟨x.a, kind, 0, y, t⟩ 59 (cs := #[.int .i64 x.a, .int .i64 kind, .int .i64 0, .int .i64 y, .int .u64 t]) rfl);
           obtain ⟨m0, m1, m2, m3, m4⟩ := cellsO K5.out; simp only at m0 m1 m2 m3 m4)
        | (at_builtin; refine wpList_appS tO (base := V.heap.size) rfl (.tmp 69) (.tmp 71) rfl rfl rfl O8.out S8.out LN.out LB.out.size ?_;
           intro y9 w9 own gr _; have LO := Lib.hid (grown_low gr LB.out.size (fun g hg => O8.out.low g hg)); have OX := Lib.hid own; clear own gr))
      go_roundg (m - (j + 1))
      case measure => have := HJ.out; omega
      case rel =>
        refine ⟨j + 1, by omega, by simp, ?_, LB.out.trans LO.out⟩
        rw [take_more HX.out, List.map_append, List.map_cons, List.map_nil, ← HYY.out]
        exact OX.out
    · have hlt' : ¬ (j : Int) < m := by omega
      obtain ⟨P', n', c', hv9, r9, _, _, _⟩ := OW.out.row'
      subst hv9
      have R9 := Lib.hid r9
      have hjq : j = m := by have := HJ.out; omega
      have LT : Hid (ms.take j = ms) := Lib.hid (List.take_of_length_le (by rw [ML.out]; omega))
      clear r9 mr pr
      go_wp2
      go_ret
      have h2 := R9.out
      rw [LT.out] at h2
      exact ⟨_, _, ⟨_, rfl⟩, h2, B9.out.trans (LV.out.mono B9.out.size)⟩

set_option maxRecDepth 100000 in
set_option maxHeartbeats 4000000 in
theorem routs_three (A : Option Addr) (n c : Nat) (M : Option Addr) (m d : Nat) (K : CN) (zs : List Int) (ms : List P2) (kind : Int) (B : Option Addr) (k e : Nat) (vs : List Int) (t : Int) (w : World) (h : Bat w A n c M m d zs ms) (hv : RowR irec w B k vs) (hm : m ≤ 1000) (hk : kind = 3) (hy : splitY zs ms vs = true) :
    Calls Try.prog 26 #[callV A n c M m d K, .int .i64 kind, .slice B k e, .int .u64 t] w fun r w' => ∃ P q f, r = .returned (.slice P q f) ∧ RowR orec w' P q (ms.map (fun p => (⟨p.a, kind, K.ca, vs.getD p.b.toNat 0, t⟩ : Ot))) ∧ Below w.heap.size w w' := by
  have e1 : (kind != 1) = true := by simp [hk]
  have e3 : (kind != 3) = false := by simp [hk]
  have e4 : (kind != 4) = true := by simp [hk]
  clear hk
  obtain ⟨W, hW⟩ : ∃ W, w.alloc (.cells #[.slice A n c, .slice M m d, .int .i64 K.st, .int .i64 K.sp, .int .i64 K.ca, .int .u64 K.tm] 28) = W := ⟨_, rfl⟩
  have hb : Below w.heap.size w W := by rw [← hW]; exact below_alloc w _
  have k0 : W.heap[w.heap.size]? = some (vobj 28 (kvals A n c M m d K)) := by rw [← hW]; exact heap_alloc_at w (vobj 28 (kvals A n c M m d K))
  have HO := Lib.hid (rsplit_any A n c M m d zs ms B k e vs W (h.below hb) (hv.later hb) hm)
  have B0 := Lib.hid hb
  have K0 := Lib.hid k0
  obtain ⟨q0, q1, q2, q3, q4, q5⟩ := kobj_cells k0
  have ML := Lib.hid h.mlen
  have MR0 := Lib.hid h.mr
  have HW := Lib.hid hW
  clear hb k0 h hv q2 q3 q4 q5 hW
  go_enter Try.func26, Try.ntmps26
  go_wp2_with fail
  rw [HW.out]
  refine HO.out.mono ?_
  rintro r V ⟨P, q, f, rfl, hr, hqf, bV⟩
  have B9 := Lib.hid (B0.out.trans (bV.mono B0.out.size))
  have KV := Lib.hid (kb_below K0.out bV)
  have MV := Lib.hid (MR0.out.later B9.out)
  have PV := Lib.hid hr
  have PY := Lib.hid (show valL zs ms vs = ms.map (fun x => vs.getD x.b.toNat 0) by simp [valL, hy])
  rw [hy]
  clear hr bV q0 q1 HO hy
  go_wp2
  go_loopg [12, 9] m (fun g v12 v9 wr => ∃ j : Nat, j + g = m ∧ v12 = .int .i64 j ∧ OwnR orec wr V.heap.size 59 v9 ((ms.take j).map (fun p => (⟨p.a, kind, K.ca, vs.getD p.b.toNat 0, t⟩ : Ot))) ∧ Below V.heap.size V wr)
  case atStart => exact ⟨0, by omega, rfl, OwnR.nil _ _ _, Below.refl _ _⟩
  case round =>
    obtain ⟨j, hj, rfl, hown, hl⟩ := hrel
    have HJ := Lib.hid hj
    have OW := Lib.hid hown
    have LV := Lib.hid hl
    obtain ⟨x0, x1, x2, x3, x4, x5⟩ := kobj_cells (kb_below KV.out hl)
    have KR := Lib.hid (kb_below KV.out hl)
    have mr := MV.out.later hl
    have pr := PV.out.later hl
    clear hj hown hl x0 x2 x3 x5
    by_cases hlt : j < m
    · have hlt' : (j : Int) < m := by omega
      obtain ⟨b, off, x, rfl, hx, p0, p1⟩ := mr.pair_at hlt
      have HX := Lib.hid hx
      have hql : q = m := by have := PV.out.1; rw [PY.out, List.length_map, ML.out] at this; exact this.symm
      have hjq : (j : Int) < q := by omega
      obtain ⟨pb, po, y, rfl, hy, p2⟩ := pr.int_at (i := j) (by omega)
      have HYY : Hid (y = vs.getD x.b.toNat 0) := Lib.hid (by rw [PY.out, List.getElem?_map, hx] at hy; simpa using hy.symm)
      clear hy pr hql
      clear hx mr p1
      have hsr : V.heap.size ≤ wr.heap.size := LV.out.size
      have SR := Lib.hid hsr
      clear hsr
      have OWB0 : Hid (∀ g, u9.ownBlock = some g → g ≠ wr.heap.size) := Lib.hid (fun g hg => by obtain ⟨cs, hcs⟩ := OW.out.block hg; have := heap_lt hcs; omega)
      go_upto_region 9 with fail
      have hbg : Below wr.heap.size wr (wr.alloc (.cells #[.int .i64 x.a, .int .i64 kind, .int .i64 0, .int .i64 0, .int .u64 t] 59)) := below_alloc wr _
      have kg : (wr.alloc (.cells #[.int .i64 x.a, .int .i64 kind, .int .i64 0, .int .i64 0, .int .u64 t] 59)).heap[wr.heap.size]? = some (vobj 59 (Ot.mk x.a kind 0 0 t).vals) := heap_alloc_at wr _
      have ow : OwnR orec (wr.alloc (.cells #[.int .i64 x.a, .int .i64 kind, .int .i64 0, .int .i64 0, .int .u64 t] 59)) V.heap.size 59 u9 ((ms.take j).map (fun p => (⟨p.a, kind, K.ca, vs.getD p.b.toNat 0, t⟩ : Ot))) := OW.out.alloc _
      have kx := kb_below KR.out hbg
      have p2' := (World.cell?_of_block (hbg.block _ (cell_lt p2))).trans p2
      have hgw : wr.heap.size ≠ w.heap.size := by have := SR.out; have := heap_lt KV.out; omega
      have hgp : wr.heap.size ≠ pb := by have := cell_lt p2; simp at this; omega
      generalize wr.alloc (.cells #[.int .i64 x.a, .int .i64 kind, .int .i64 0, .int .i64 0, .int .u64 t] 59) = wg at *
      have GB := Lib.hid hbg
      have KG := Lib.hid kg
      have OG := Lib.hid ow
      have KX := Lib.hid kx
      have NGW := Lib.hid hgw
      have NGP := Lib.hid hgp
      obtain ⟨y0, y1, y2, y3, y4, y5⟩ := kobj_cells kx
      clear hbg kg ow kx hgw x1 x4 p0 KR OW y0 y1 y2 y3 y5 hgp p2
      have LN : Hid (((ms.take j).map (fun p => (⟨p.a, kind, K.ca, vs.getD p.b.toNat 0, t⟩ : Ot))).length + 1 ≤ 1048576) := Lib.hid (by rw [List.length_map, List.length_take]; omega)
      have OWB : Hid (∀ g, u9.ownBlock = some g → g ≠ wr.heap.size) := Lib.hid OWB0.out
      clear OWB0
      go_wp2_with (first
        | (refine wpList_store_one rfl 3 _ _ rfl wr.heap.size 2 59 (Ot.mk x.a kind 0 0 t).vals (.int .i64 K.ca) rfl rfl ?hz (by show 2 < 5; decide) size1i rfl rfl ?_; (case hz => exact KG.out); intro w5 k5 f5 z5; clear z5; have p3 := (World.cell?_of_block (f5.block pb (cell_lt p2') (fun e => NGP.out e.symm))).trans p2'; clear p2';
           have K5 : Hid (w5.heap[wr.heap.size]? = some (vobj 59 (Ot.mk x.a kind K.ca 0 t).vals)) := Lib.hid k5; have F5 := Lib.hid f5; clear k5 f5)
        | (refine wpList_store_one rfl 3 _ _ rfl wr.heap.size 3 59 (Ot.mk x.a kind K.ca 0 t).vals (.int .i64 y) rfl rfl ?hz (by show 3 < 5; decide) size1i rfl rfl ?_; (case hz => exact K5.out); intro w6 k6 f6 z6; clear z6; 
           have K6 : Hid (w6.heap[wr.heap.size]? = some (vobj 59 (Ot.mk x.a kind K.ca y t).vals)) := Lib.hid k6; have F6 := Lib.hid f6; clear k6 f6;
           have FF : Hid (Frm (· = wr.heap.size) wg w6) := Lib.hid (F5.out.trans F6.out (fun _ _ e => e));
           have LB : Hid (Below V.heap.size V (w6.alloc (.cells #[.int .i64 x.a, .int .i64 kind, .int .i64 K.ca, .int .i64 y, .int .u64 t] 59))) := Lib.hid ((((LV.out.trans (GB.out.mono SR.out)).trans (FF.out.below (by have := SR.out; have := GB.out.size; omega) (fun j hj e => by have := SR.out; omega)))).alloc (by have := SR.out; have := GB.out.size; have := FF.out.size; omega) _);
           have O8 : Hid (OwnR orec (w6.alloc (.cells #[.int .i64 x.a, .int .i64 kind, .int .i64 K.ca, .int .i64 y, .int .u64 t] 59)) V.heap.size 59 u9 ((ms.take j).map (fun p => (⟨p.a, kind, K.ca, vs.getD p.b.toNat 0, t⟩ : Ot)))) := Lib.hid ((own_off OG.out FF.out OWB.out).alloc _);
           have S8 : Hid (RowR orec (w6.alloc (.cells #[.int .i64 x.a, .int .i64 kind, .int .i64 K.ca, .int .i64 y, .int .u64 t] 59)) (some ⟨w6.heap.size, 0, none⟩) 1 [(⟨x.a, kind, K.ca, y, t⟩ : Ot)]) := Lib.hid (RowR.one (R := orec) w6 ⟨x.a, kind, K.ca, y, t⟩ 59 (cs := #[.int .i64 x.a, .int .i64 kind, .int .i64 K.ca, .int .i64 y, .int .u64 t]) rfl);
           obtain ⟨m0, m1, m2, m3, m4⟩ := cellsO K6.out; simp only at m0 m1 m2 m3 m4)
        | (at_builtin; refine wpList_appS tO (base := V.heap.size) rfl (.tmp 69) (.tmp 71) rfl rfl rfl O8.out S8.out LN.out LB.out.size ?_;
           intro y9 w9 own gr _; have LO := Lib.hid (grown_low gr LB.out.size (fun g hg => O8.out.low g hg)); have OX := Lib.hid own; clear own gr))
      go_roundg (m - (j + 1))
      case measure => have := HJ.out; omega
      case rel =>
        refine ⟨j + 1, by omega, by simp, ?_, LB.out.trans LO.out⟩
        rw [take_more HX.out, List.map_append, List.map_cons, List.map_nil, ← HYY.out]
        exact OX.out
    · have hlt' : ¬ (j : Int) < m := by omega
      obtain ⟨P', n', c', hv9, r9, _, _, _⟩ := OW.out.row'
      subst hv9
      have R9 := Lib.hid r9
      have hjq : j = m := by have := HJ.out; omega
      have LT : Hid (ms.take j = ms) := Lib.hid (List.take_of_length_le (by rw [ML.out]; omega))
      clear r9 mr pr
      go_wp2
      go_ret
      have h2 := R9.out
      rw [LT.out] at h2
      exact ⟨_, _, ⟨_, rfl⟩, h2, B9.out.trans (LV.out.mono B9.out.size)⟩

set_option maxRecDepth 100000 in
set_option maxHeartbeats 4000000 in
theorem routs_four (A : Option Addr) (n c : Nat) (M : Option Addr) (m d : Nat) (K : CN) (zs : List Int) (ms : List P2) (kind : Int) (B : Option Addr) (k e : Nat) (vs : List Int) (t : Int) (w : World) (h : Bat w A n c M m d zs ms) (hv : RowR irec w B k vs) (hm : m ≤ 1000) (hk : kind = 4) :
    Calls Try.prog 26 #[callV A n c M m d K, .int .i64 kind, .slice B k e, .int .u64 t] w fun r w' => ∃ P q f, r = .returned (.slice P q f) ∧ RowR orec w' P q (ms.map (fun p => (⟨p.a, kind, K.ca, 0, t⟩ : Ot))) ∧ Below w.heap.size w w' := by
  have e1 : (kind != 1) = true := by simp [hk]
  have e3 : (kind != 3) = true := by simp [hk]
  have e4 : (kind != 4) = false := by simp [hk]
  clear hk
  obtain ⟨W, hW⟩ : ∃ W, w.alloc (.cells #[.slice A n c, .slice M m d, .int .i64 K.st, .int .i64 K.sp, .int .i64 K.ca, .int .u64 K.tm] 28) = W := ⟨_, rfl⟩
  have hb : Below w.heap.size w W := by rw [← hW]; exact below_alloc w _
  have k0 : W.heap[w.heap.size]? = some (vobj 28 (kvals A n c M m d K)) := by rw [← hW]; exact heap_alloc_at w (vobj 28 (kvals A n c M m d K))
  have HO := Lib.hid (rsplit_any A n c M m d zs ms B k e vs W (h.below hb) (hv.later hb) hm)
  have B0 := Lib.hid hb
  have K0 := Lib.hid k0
  obtain ⟨q0, q1, q2, q3, q4, q5⟩ := kobj_cells k0
  have ML := Lib.hid h.mlen
  have MR0 := Lib.hid h.mr
  have HW := Lib.hid hW
  clear hb k0 h hv q2 q3 q4 q5 hW
  go_enter Try.func26, Try.ntmps26
  go_wp2_with fail
  rw [HW.out]
  refine HO.out.mono ?_
  rintro r V ⟨P, q, f, rfl, hr, hqf, bV⟩
  have B9 := Lib.hid (B0.out.trans (bV.mono B0.out.size))
  have KV := Lib.hid (kb_below K0.out bV)
  have MV := Lib.hid (MR0.out.later B9.out)
  clear hr bV q0 q1 HO
  generalize splitY zs ms vs = yy
  go_wp2
  go_loopg [12, 9] m (fun g v12 v9 wr => ∃ j : Nat, j + g = m ∧ v12 = .int .i64 j ∧ OwnR orec wr V.heap.size 59 v9 ((ms.take j).map (fun p => (⟨p.a, kind, K.ca, 0, t⟩ : Ot))) ∧ Below V.heap.size V wr)
  case atStart => exact ⟨0, by omega, rfl, OwnR.nil _ _ _, Below.refl _ _⟩
  case round =>
    obtain ⟨j, hj, rfl, hown, hl⟩ := hrel
    have HJ := Lib.hid hj
    have OW := Lib.hid hown
    have LV := Lib.hid hl
    obtain ⟨x0, x1, x2, x3, x4, x5⟩ := kobj_cells (kb_below KV.out hl)
    have KR := Lib.hid (kb_below KV.out hl)
    have mr := MV.out.later hl
    clear hj hown hl x0 x2 x3 x5
    by_cases hlt : j < m
    · have hlt' : (j : Int) < m := by omega
      obtain ⟨b, off, x, rfl, hx, p0, p1⟩ := mr.pair_at hlt
      have HX := Lib.hid hx
      clear hx mr p1
      have hsr : V.heap.size ≤ wr.heap.size := LV.out.size
      have SR := Lib.hid hsr
      clear hsr
      have OWB0 : Hid (∀ g, u9.ownBlock = some g → g ≠ wr.heap.size) := Lib.hid (fun g hg => by obtain ⟨cs, hcs⟩ := OW.out.block hg; have := heap_lt hcs; omega)
      go_upto_region 9 with fail
      have hbg : Below wr.heap.size wr (wr.alloc (.cells #[.int .i64 x.a, .int .i64 kind, .int .i64 0, .int .i64 0, .int .u64 t] 59)) := below_alloc wr _
      have kg : (wr.alloc (.cells #[.int .i64 x.a, .int .i64 kind, .int .i64 0, .int .i64 0, .int .u64 t] 59)).heap[wr.heap.size]? = some (vobj 59 (Ot.mk x.a kind 0 0 t).vals) := heap_alloc_at wr _
      have ow : OwnR orec (wr.alloc (.cells #[.int .i64 x.a, .int .i64 kind, .int .i64 0, .int .i64 0, .int .u64 t] 59)) V.heap.size 59 u9 ((ms.take j).map (fun p => (⟨p.a, kind, K.ca, 0, t⟩ : Ot))) := OW.out.alloc _
      have kx := kb_below KR.out hbg
      have hgw : wr.heap.size ≠ w.heap.size := by have := SR.out; have := heap_lt KV.out; omega
      generalize wr.alloc (.cells #[.int .i64 x.a, .int .i64 kind, .int .i64 0, .int .i64 0, .int .u64 t] 59) = wg at *
      have GB := Lib.hid hbg
      have KG := Lib.hid kg
      have OG := Lib.hid ow
      have KX := Lib.hid kx
      have NGW := Lib.hid hgw
      obtain ⟨y0, y1, y2, y3, y4, y5⟩ := kobj_cells kx
      clear hbg kg ow kx hgw x1 x4 p0 KR OW y0 y1 y2 y3 y5
      have LN : Hid (((ms.take j).map (fun p => (⟨p.a, kind, K.ca, 0, t⟩ : Ot))).length + 1 ≤ 1048576) := Lib.hid (by rw [List.length_map, List.length_take]; omega)
      have OWB : Hid (∀ g, u9.ownBlock = some g → g ≠ wr.heap.size) := Lib.hid OWB0.out
      clear OWB0
      go_wp2_with (first
        | (refine wpList_store_one rfl 3 _ _ rfl wr.heap.size 2 59 (Ot.mk x.a kind 0 0 t).vals (.int .i64 K.ca) rfl rfl ?hz (by show 2 < 5; decide) size1i rfl rfl ?_; (case hz => exact KG.out); intro w5 k5 f5 z5; clear z5; 
           have K5 : Hid (w5.heap[wr.heap.size]? = some (vobj 59 (Ot.mk x.a kind K.ca 0 t).vals)) := Lib.hid k5; have F5 := Lib.hid f5; clear k5 f5;
           have FF : Hid (Frm (· = wr.heap.size) wg w5) := Lib.hid (F5.out);
           have LB : Hid (Below V.heap.size V (w5.alloc (.cells #[.int .i64 x.a, .int .i64 kind, .int .i64 K.ca, .int .i64 0, .int .u64 t] 59))) := Lib.hid ((((LV.out.trans (GB.out.mono SR.out)).trans (FF.out.below (by have := SR.out; have := GB.out.size; omega) (fun j hj e => by have := SR.out; omega)))).alloc (by have := SR.out; have := GB.out.size; have := FF.out.size; omega) _);
           have O8 : Hid (OwnR orec (w5.alloc (.cells #[.int .i64 x.a, .int .i64 kind, .int .i64 K.ca, .int .i64 0, .int .u64 t] 59)) V.heap.size 59 u9 ((ms.take j).map (fun p => (⟨p.a, kind, K.ca, 0, t⟩ : Ot)))) := Lib.hid ((own_off OG.out FF.out OWB.out).alloc _);
           have S8 : Hid (RowR orec (w5.alloc (.cells #[.int .i64 x.a, .int .i64 kind, .int .i64 K.ca, .int .i64 0, .int .u64 t] 59)) (some ⟨w5.heap.size, 0, none⟩) 1 [(⟨x.a, kind, K.ca, 0, t⟩ : Ot)]) := Lib.hid (RowR.one (R := orec) w5 ⟨x.a, kind, K.ca, 0, t⟩ 59 (cs := #[.int .i64 x.a, .int .i64 kind, .int .i64 K.ca, .int .i64 0, .int .u64 t]) rfl);
           obtain ⟨m0, m1, m2, m3, m4⟩ := cellsO K5.out; simp only at m0 m1 m2 m3 m4)
        | (at_builtin; refine wpList_appS tO (base := V.heap.size) rfl (.tmp 69) (.tmp 71) rfl rfl rfl O8.out S8.out LN.out LB.out.size ?_;
           intro y9 w9 own gr _; have LO := Lib.hid (grown_low gr LB.out.size (fun g hg => O8.out.low g hg)); have OX := Lib.hid own; clear own gr))
      go_roundg (m - (j + 1))
      case measure => have := HJ.out; omega
      case rel =>
        refine ⟨j + 1, by omega, by simp, ?_, LB.out.trans LO.out⟩
        rw [take_more HX.out, List.map_append, List.map_cons, List.map_nil]
        exact OX.out
    · have hlt' : ¬ (j : Int) < m := by omega
      obtain ⟨P', n', c', hv9, r9, _, _, _⟩ := OW.out.row'
      subst hv9
      have R9 := Lib.hid r9
      have hjq : j = m := by have := HJ.out; omega
      have LT : Hid (ms.take j = ms) := Lib.hid (List.take_of_length_le (by rw [ML.out]; omega))
      clear r9 mr
      go_wp2
      go_ret
      have h2 := R9.out
      rw [LT.out] at h2
      exact ⟨_, _, ⟨_, rfl⟩, h2, B9.out.trans (LV.out.mono B9.out.size)⟩

set_option maxRecDepth 100000 in
set_option maxHeartbeats 4000000 in
theorem routs_none (A : Option Addr) (n c : Nat) (M : Option Addr) (m d : Nat) (K : CN) (zs : List Int) (ms : List P2) (kind : Int) (B : Option Addr) (k e : Nat) (vs : List Int) (t : Int) (w : World) (h : Bat w A n c M m d zs ms) (hv : RowR irec w B k vs) (hm : m ≤ 1000) (hk : kind ≠ 1 ∧ kind ≠ 3 ∧ kind ≠ 4) :
    Calls Try.prog 26 #[callV A n c M m d K, .int .i64 kind, .slice B k e, .int .u64 t] w fun r w' => ∃ P q f, r = .returned (.slice P q f) ∧ RowR orec w' P q [] ∧ Below w.heap.size w w' := by
  have e1 : (kind != 1) = true := by simp; omega
  have e3 : (kind != 3) = true := by simp; omega
  have e4 : (kind != 4) = true := by simp; omega
  clear hk
  obtain ⟨W, hW⟩ : ∃ W, w.alloc (.cells #[.slice A n c, .slice M m d, .int .i64 K.st, .int .i64 K.sp, .int .i64 K.ca, .int .u64 K.tm] 28) = W := ⟨_, rfl⟩
  have hb : Below w.heap.size w W := by rw [← hW]; exact below_alloc w _
  have k0 : W.heap[w.heap.size]? = some (vobj 28 (kvals A n c M m d K)) := by rw [← hW]; exact heap_alloc_at w (vobj 28 (kvals A n c M m d K))
  have HO := Lib.hid (rsplit_any A n c M m d zs ms B k e vs W (h.below hb) (hv.later hb) hm)
  have B0 := Lib.hid hb
  have K0 := Lib.hid k0
  obtain ⟨q0, q1, q2, q3, q4, q5⟩ := kobj_cells k0
  have ML := Lib.hid h.mlen
  have MR0 := Lib.hid h.mr
  have HW := Lib.hid hW
  clear hb k0 h hv q2 q3 q4 q5 hW
  go_enter Try.func26, Try.ntmps26
  go_wp2_with fail
  rw [HW.out]
  refine HO.out.mono ?_
  rintro r V ⟨P, q, f, rfl, hr, hqf, bV⟩
  have B9 := Lib.hid (B0.out.trans (bV.mono B0.out.size))
  clear hr bV q0 q1
  go_wp2
  go_ret
  
  exact ⟨none, 0, 0, rfl, RowR.nil _, B9.out⟩

set_option maxRecDepth 100000 in
set_option maxHeartbeats 4000000 in
theorem routs_bad (A : Option Addr) (n c : Nat) (M : Option Addr) (m d : Nat) (K : CN) (zs : List Int) (ms : List P2) (kind : Int) (B : Option Addr) (k e : Nat) (vs : List Int) (t : Int) (w : World) (h : Bat w A n c M m d zs ms) (hv : RowR irec w B k vs) (hm : m ≤ 1000) (hk : kind = 1 ∨ kind = 3) (hy : splitY zs ms vs = false) :
    Calls Try.prog 26 #[callV A n c M m d K, .int .i64 kind, .slice B k e, .int .u64 t] w fun r w' => ∃ P q f, r = .returned (.slice P q f) ∧ RowR orec w' P q [] ∧ Below w.heap.size w w' := by
  have e4 : (kind != 4) = true := by simp; omega
  rcases hk with hk | hk
  · have e1 : (kind != 1) = false := by simp [hk]
    have e3 : (kind != 3) = true := by simp [hk]
    clear hk
    obtain ⟨W, hW⟩ : ∃ W, w.alloc (.cells #[.slice A n c, .slice M m d, .int .i64 K.st, .int .i64 K.sp, .int .i64 K.ca, .int .u64 K.tm] 28) = W := ⟨_, rfl⟩
    have hb : Below w.heap.size w W := by rw [← hW]; exact below_alloc w _
    have k0 : W.heap[w.heap.size]? = some (vobj 28 (kvals A n c M m d K)) := by rw [← hW]; exact heap_alloc_at w (vobj 28 (kvals A n c M m d K))
    have HO := Lib.hid (rsplit_any A n c M m d zs ms B k e vs W (h.below hb) (hv.later hb) hm)
    have B0 := Lib.hid hb
    have K0 := Lib.hid k0
    obtain ⟨q0, q1, q2, q3, q4, q5⟩ := kobj_cells k0
    have ML := Lib.hid h.mlen
    have MR0 := Lib.hid h.mr
    have HW := Lib.hid hW
    clear hb k0 h hv q2 q3 q4 q5 hW
    go_enter Try.func26, Try.ntmps26
    go_wp2_with fail
    rw [HW.out]
    refine HO.out.mono ?_
    rintro r V ⟨P, q, f, rfl, hr, hqf, bV⟩
    have B9 := Lib.hid (B0.out.trans (bV.mono B0.out.size))
    clear hr bV q0 q1
    rw [hy]
    go_wp2
    go_ret
    
    exact ⟨none, 0, 0, rfl, RowR.nil _, B9.out⟩
  · have e1 : (kind != 1) = true := by simp [hk]
    have e3 : (kind != 3) = false := by simp [hk]
    clear hk
    obtain ⟨W, hW⟩ : ∃ W, w.alloc (.cells #[.slice A n c, .slice M m d, .int .i64 K.st, .int .i64 K.sp, .int .i64 K.ca, .int .u64 K.tm] 28) = W := ⟨_, rfl⟩
    have hb : Below w.heap.size w W := by rw [← hW]; exact below_alloc w _
    have k0 : W.heap[w.heap.size]? = some (vobj 28 (kvals A n c M m d K)) := by rw [← hW]; exact heap_alloc_at w (vobj 28 (kvals A n c M m d K))
    have HO := Lib.hid (rsplit_any A n c M m d zs ms B k e vs W (h.below hb) (hv.later hb) hm)
    have B0 := Lib.hid hb
    have K0 := Lib.hid k0
    obtain ⟨q0, q1, q2, q3, q4, q5⟩ := kobj_cells k0
    have ML := Lib.hid h.mlen
    have MR0 := Lib.hid h.mr
    have HW := Lib.hid hW
    clear hb k0 h hv q2 q3 q4 q5 hW
    go_enter Try.func26, Try.ntmps26
    go_wp2_with fail
    rw [HW.out]
    refine HO.out.mono ?_
    rintro r V ⟨P, q, f, rfl, hr, hqf, bV⟩
    have B9 := Lib.hid (B0.out.trans (bV.mono B0.out.size))
    clear hr bV q0 q1
    rw [hy]
    go_wp2
    go_ret
    
    exact ⟨none, 0, 0, rfl, RowR.nil _, B9.out⟩

theorem routs15_any (A : Option Addr) (n c : Nat) (M : Option Addr) (m d : Nat) (K : CN) (zs : List Int) (ms : List P2) (kind : Int) (B : Option Addr) (k e : Nat) (vs : List Int) (t : Int) (w : World) (h : Bat w A n c M m d zs ms) (hv : RowR irec w B k vs) (hm : m ≤ 1000) :
    Calls Try.prog 26 #[callV A n c M m d K, .int .i64 kind, .slice B k e, .int .u64 t] w fun r w' => ∃ P q f, r = .returned (.slice P q f) ∧ RowR orec w' P q (outsL zs ms K kind vs t) ∧ Below w.heap.size w w' := by
  by_cases h1 : kind = 1
  · rw [show outsL zs ms K kind vs t = toldL ⟨0, kind, 0, 0, t⟩ (splitL zs ms vs) by simp [outsL, h1]]
    cases hy : splitY zs ms vs with
    | true => rw [toldL_split hy]; exact routs_one A n c M m d K zs ms kind B k e vs t w h hv hm h1 hy
    | false => rw [toldL_none hy]; exact routs_bad A n c M m d K zs ms kind B k e vs t w h hv hm (.inl h1) hy
  · by_cases h3 : kind = 3
    · rw [show outsL zs ms K kind vs t = toldL ⟨0, kind, K.ca, 0, t⟩ (splitL zs ms vs) by simp [outsL, h3]]
      cases hy : splitY zs ms vs with
      | true => rw [toldL_split hy]; exact routs_three A n c M m d K zs ms kind B k e vs t w h hv hm h3 hy
      | false => rw [toldL_none hy]; exact routs_bad A n c M m d K zs ms kind B k e vs t w h hv hm (.inr h3) hy
    · by_cases h4 : kind = 4
      · rw [show outsL zs ms K kind vs t = failedL ⟨0, kind, K.ca, 0, t⟩ ms by simp [outsL, h4]]
        exact routs_four A n c M m d K zs ms kind B k e vs t w h hv hm h4
      · rw [show outsL zs ms K kind vs t = [] by simp [outsL, h1, h3, h4]]
        exact routs_none A n c M m d K zs ms kind B k e vs t w h hv hm ⟨h1, h3, h4⟩
end Go.Proofs.Ytpfmjocpgnoepaa
