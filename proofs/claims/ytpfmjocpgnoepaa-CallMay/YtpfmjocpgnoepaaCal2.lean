/- Contracts of package call: told, failed, Outs. Written by wip/tools/gen_cal2.py. -/
import Derived.Test.YtpfmjocpgnoepaaCal
import Derived.Test.YtpfmjocpgnoepaaBatSplit
import Derived.Test.YtpfmjocpgnoepaaOuts
import Derived.Test.YtpfmjocpgnoepaaHand
import Derived.Deep.DeepCutAuto
namespace Go.Proofs.Ytpfmjocpgnoepaa
set_option linter.unusedVariables false
open Go.ChangeShapes Go.WideShapes Go.ChangeAt Go.RowKit

theorem tO : SlT Try.prog orec 49 59 := slT_of (z := .agg #[.int .i64 0, .int .i64 0, .int .i64 0, .int .i64 0, .int .u64 0]) (n := 5) (by_ := 40) (by kernel_rfl) (by kernel_rfl) rfl (by decide) rfl
/-- An outcome by value, its cells written out. -/
abbrev outV (x : Ot) : Value := .agg #[.int .i64 x.id, .int .i64 x.kind, .int .i64 x.cause, .int .i64 x.val, .int .u64 x.tm]
/-- What came of pairs, of members: outcomes like one. -/
def toldL (x : Ot) (ps : List P2) : List Ot := ps.map (fun p => ⟨p.a, x.kind, x.cause, p.b, x.tm⟩)
def failedL (x : Ot) (ms : List P2) : List Ot := ms.map (fun p => ⟨p.a, x.kind, x.cause, x.val, x.tm⟩)
theorem toldL_snoc (x : Ot) (ps : List P2) (p : P2) : toldL x (ps ++ [p]) = toldL x ps ++ [⟨p.a, x.kind, x.cause, p.b, x.tm⟩] := by simp [toldL]
theorem failedL_snoc (x : Ot) (ps : List P2) (p : P2) : failedL x (ps ++ [p]) = failedL x ps ++ [⟨p.a, x.kind, x.cause, x.val, x.tm⟩] := by simp [failedL]
theorem Frm.then_low {F : Nat → Prop} {a w w' : World} (h : Frm F a w) (hb : Below a.heap.size w w') : Frm F a w' :=
  ⟨hb.os.trans h.os, hb.tape.trans h.tape, hb.output.trans h.output, Nat.le_trans h.size hb.size, fun j hj hn => (hb.block j hj).trans (h.block j hj hn)⟩
theorem OwnR.frm_low {α : Type} {R : Rec α} {w w' : World} {base : Nat} {e : TypeId} {v : Value} {V : List α} {F : Nat → Prop} (h : OwnR R w base e v V) (hf : Frm F w w') (hF : ∀ j, F j → j < base) : OwnR R w' base e v V := by
  refine ⟨⟨h.1.1, ?_⟩, h.2⟩
  rcases h.1.2 with h0 | ⟨g, cap, cur, hv, hb, hh, hr⟩
  · exact .inl h0
  · exact .inr ⟨g, cap, cur, hv, hb, by rw [hf.block g (heap_lt hh) (fun hc => by have := hF g hc; omega)]; exact hh, hr⟩
theorem splitL_len (zs : List Int) (ms : List P2) (vs : List Int) : (splitL zs ms vs).length ≤ ms.length := by
  unfold splitL
  split
  · rw [pairL_len]; exact Nat.le_refl _
  · exact Nat.zero_le _

set_option maxRecDepth 100000 in
set_option maxHeartbeats 4000000 in
theorem ktold_any (A : Option Addr) (n c : Nat) (M : Option Addr) (m d : Nat) (zs : List Int) (ms : List P2) (B : Option Addr) (k e : Nat) (vs : List Int) (x : Ot) (w : World) (h : Bat w A n c M m d zs ms) (hv : RowR irec w B k vs) (hm : m ≤ 1000) :
    Calls Try.prog 53 #[batV A n c M m d, .slice B k e, outV x] w fun r w' => ∃ P q f, r = .returned (.slice P q f) ∧ RowR orec w' P q (toldL x (splitL zs ms vs)) ∧ Below w.heap.size w w' := by
  obtain ⟨W, hW, hb, k0, k1, hsz⟩ := two_new w (bobj 34 A n c M m d) (vobj 59 x.vals)
  have HO := Lib.hid (bsplit_fr A n c M m d zs ms B k e vs W (h.below hb) (hv.later hb) hm)
  have HW : Hid ((w.alloc (.cells #[.slice A n c, .slice M m d] 34)).alloc (.cells #[.int .i64 x.id, .int .i64 x.kind, .int .i64 x.cause, .int .i64 x.val, .int .u64 x.tm] 59) = W) := Lib.hid hW
  obtain ⟨q0, q1⟩ := bobj_cells k0
  have B0 := Lib.hid hb
  have K1 := Lib.hid k1
  have SZ := Lib.hid hsz
  have hml := h.mlen
  have hll := splitL_len zs ms vs
  clear hW hb k0 k1 hsz h hv
  go_enter Try.func53, Try.ntmps53
  go_wp2_with fail
  rw [HW.out]
  refine HO.out.mono ?_
  rintro r V ⟨P, q, f, rfl, hr, hqf, hfr, bV⟩
  obtain ⟨L, hL⟩ : ∃ L, L = splitL zs ms vs := ⟨_, rfl⟩
  rw [← hL] at hr hll
  have HLL := Lib.hid hL
  clear hL
  have hq : q ≤ 1000 := by have := hr.1; omega
  have PR := Lib.hid hr
  have FR := Lib.hid hfr
  have QL := Lib.hid hr.1
  have BV := Lib.hid (B0.out.trans (bV.mono B0.out.size))
  have SV : Hid (w.heap.size + 2 ≤ V.heap.size) := Lib.hid (by have := bV.size; have := SZ.out; omega)
  have KV := Lib.hid (kb_below K1.out bV)
  have SW := Lib.hid SZ.out
  clear q0 q1 hr hfr bV HO K1 hml hll B0 SZ
  go_wp2_with (first
    | (refine wpList_makeS tO rfl _ _ rfl rfl rfl (by omega) ?_; intro w1 o1 b1; have O1 := Lib.hid o1; have B1 := Lib.hid b1; clear o1 b1))
  go_loopg [23, 9] q (fun g v23 v9 wr => ∃ (j : Nat) (i v : Int), j + g = q ∧ v23 = .int .i64 j ∧ OwnR orec wr V.heap.size 59 v9 (toldL x (L.take j)) ∧ wr.heap[w.heap.size + 1]? = some (vobj 59 (Ot.mk i x.kind x.cause v x.tm).vals) ∧ Frm (· = w.heap.size + 1) V wr)
  case atStart => exact ⟨0, x.id, x.val, by omega, rfl, by simpa [toldL] using O1.out, kb_below KV.out B1.out, Frm.of_below B1.out⟩
  case round =>
    obtain ⟨j, i, v, hj, rfl, hown, hk, hf⟩ := hrel
    have HJ := Lib.hid hj
    have OW := Lib.hid hown
    have KR := Lib.hid hk
    have FF := Lib.hid hf
    have pr : RowR prec wr P q L := PR.out.apart hf (fun b off e h0 hx => by have := FR.out b off e; have := SW.out; omega)
    clear hj hown hk hf O1 B1
    by_cases hlt : j < q
    · have hlt' : (j : Int) < q := by omega
      obtain ⟨b, off, y, rfl, hx, q0, q1⟩ := pr.pair_at hlt
      have HX := Lib.hid hx
      have hsr : w.heap.size + 2 ≤ wr.heap.size := Nat.le_trans SV.out FF.out.size
      have SR := Lib.hid hsr
      clear hx pr hsr
      go_wp2
      have fd : Frm (· = w.heap.size + 1) V (wr.alloc (.cells #[.int .i64 y.a, .int .i64 y.b] 73)).drew := (FF.out.alloc _).ali (drew_ali _)
      have kg : (wr.alloc (.cells #[.int .i64 y.a, .int .i64 y.b] 73)).drew.heap[wr.heap.size]? = some (.cells #[.int .i64 y.a, .int .i64 y.b] 73) := heap_alloc_at wr _
      have kl : (wr.alloc (.cells #[.int .i64 y.a, .int .i64 y.b] 73)).drew.heap[w.heap.size + 1]? = some (vobj 59 (Ot.mk i x.kind x.cause v x.tm).vals) := kb_alloc KR.out _
      have ow : OwnR orec (wr.alloc (.cells #[.int .i64 y.a, .int .i64 y.b] 73)).drew V.heap.size 59 u9 (toldL x (L.take j)) := (OW.out.alloc _).ali (drew_ali _)
      generalize hwd : (wr.alloc (.cells #[.int .i64 y.a, .int .i64 y.b] 73)).drew = wd at fd kg kl ow
      have HWD := Lib.hid hwd
      have FD := Lib.hid fd
      have KL := Lib.hid kl
      have OD := Lib.hid ow
      have HS : Hid (∀ wx, Frm (· = w.heap.size + 1) wd wx → wx.cell? ⟨wr.heap.size, 0, none⟩ = some (.int .i64 y.a) ∧ wx.cell? ⟨wr.heap.size, 1, none⟩ = some (.int .i64 y.b)) := Lib.hid (fun wx hx => by
        have := (hx.block _ (heap_lt kg) (by show ¬ wr.heap.size = w.heap.size + 1; have := SR.out; omega)).trans kg
        exact ⟨by rw [cell_of this]; rfl, by rw [cell_of this]; rfl⟩)
      clear fd kg kl ow hwd q0 q1
      refine wp_region_held_drew (S := fun wx => wx.cell? ⟨wr.heap.size, 0, none⟩ = some (.int .i64 y.a) ∧ wx.cell? ⟨wr.heap.size, 1, none⟩ = some (.int .i64 y.b)) (by kernel_rfl) (by rw [HWD.out]; exact HS.out _ (Frm.refl _ _)) (fun hHeld => ?_)
      rw [HWD.out]
      rw [HWD.out] at hHeld
      refine wpAnyH_take (i := 0) (oi := ⟨_, _, _, _, _, _⟩) (v := ?_) rfl (by kernel_rfl) (by kernel_rfl) (by kernel_rfl) (fun _ _ _ h => h) (Or.inl ⟨by rfl, ?_⟩) (by assumption) ?_
      rotate_left
      · intro w hSw; (try dsimp only at hSw); go_simp; try (with_reducible rfl)
      try go_frame
      refine wpAnyH_take (i := 1) (oi := ⟨_, _, _, _, _, _⟩) (v := ?_) rfl (by kernel_rfl) (by kernel_rfl) (by kernel_rfl) (fun _ _ _ h => h) (Or.inl ⟨by rfl, ?_⟩) (by assumption) ?_
      rotate_left
      · intro w hSw; (try dsimp only at hSw); go_simp; try (with_reducible rfl)
      try go_frame
      refine wpAnyH_take (i := 2) (oi := ⟨_, _, _, _, _, _⟩) (v := ?_) rfl (by kernel_rfl) (by kernel_rfl) (by kernel_rfl) (fun _ _ _ h => h) (Or.inl ⟨by rfl, ?_⟩) (by assumption) ?_
      rotate_left
      · intro w hSw; (try dsimp only at hSw); go_simp; try (with_reducible rfl)
      try go_frame
      refine wpAnyH_take (i := 3) (oi := ⟨_, _, _, _, _, _⟩) (v := ?_) rfl (by kernel_rfl) (by kernel_rfl) (by kernel_rfl) (fun _ _ _ h => h) (Or.inl ⟨by rfl, ?_⟩) (by assumption) ?_
      rotate_left
      · intro w hSw; (try dsimp only at hSw); go_simp; try (with_reducible rfl)
      try go_frame
      refine wpAnyH_take (i := 4) (oi := ⟨_, _, _, _, _, _⟩) (v := ?_) rfl (by kernel_rfl) (by kernel_rfl) (by kernel_rfl) (fun _ _ _ h => h) (Or.inl ⟨by rfl, ?_⟩) (by assumption) ?_
      rotate_left
      · intro w hSw; (try dsimp only at hSw); go_simp; try (with_reducible rfl)
      try go_frame
      refine wpAnyH_ready (rs := [5]) (by kernel_rfl) (by simp) ?_
      refine ready_cons (i := 5) (o := ⟨_, _, _, _, _, _⟩) rfl ?_ AllReadyH.nil
      intro K hK
      refine store1_step rfl 3 _ _ rfl (w.heap.size + 1) 0 59 (Ot.mk i x.kind x.cause v x.tm).vals (.int .i64 y.a) rfl rfl KL.out (by show 0 < 5; decide) size1i rfl rfl ?_
      intro w5 k5 f5 z5
      clear z5
      have K5 : Hid (w5.heap[w.heap.size + 1]? = some (vobj 59 (Ot.mk y.a x.kind x.cause v x.tm).vals)) := Lib.hid k5
      have F5 := Lib.hid f5
      refine hK.out _ _ (HS.out _ f5) (fun hHeld => ?_)
      clear hK K k5 f5
      try go_frame
      refine wpAnyH_take (i := 6) (oi := ⟨_, _, _, _, _, _⟩) (v := ?_) rfl (by kernel_rfl) (by kernel_rfl) (by kernel_rfl) (fun _ _ _ h => h) (Or.inl ⟨by rfl, ?_⟩) (by assumption) ?_
      rotate_left
      · intro w hSw; (try dsimp only at hSw); go_simp; try (with_reducible rfl)
      try go_frame
      refine wpAnyH_ready (rs := [7]) (by kernel_rfl) (by simp) ?_
      refine ready_cons (i := 7) (o := ⟨_, _, _, _, _, _⟩) rfl ?_ AllReadyH.nil
      intro K hK
      refine store1_step rfl 3 _ _ rfl (w.heap.size + 1) 3 59 (Ot.mk y.a x.kind x.cause v x.tm).vals (.int .i64 y.b) rfl rfl K5.out (by show 3 < 5; decide) size1i rfl rfl ?_
      intro w7 k7 f7 z7
      clear z7
      have K7 : Hid (w7.heap[w.heap.size + 1]? = some (vobj 59 (Ot.mk y.a x.kind x.cause y.b x.tm).vals)) := Lib.hid k7
      have F7 := Lib.hid f7
      refine hK.out _ _ (HS.out _ (F5.out.trans f7 (fun _ _ e => e))) (fun hHeld => ?_)
      clear hK K k7 f7
      try go_frame
      refine wpAnyH_done (by kernel_rfl) ?_ _
      have F57 := F5.out.trans F7.out (fun _ _ e => e)
      have F9 : Hid (Frm (· = w.heap.size + 1) V w7) := Lib.hid (FD.out.trans F57 (fun _ _ e => e))
      have O8 : Hid (OwnR orec (w7.alloc (.cells #[.int .i64 y.a, .int .i64 x.kind, .int .i64 x.cause, .int .i64 y.b, .int .u64 x.tm] 59)) V.heap.size 59 u9 (toldL x (L.take j))) := Lib.hid ((OD.out.frm_low F57 (fun j e => by have := SV.out; omega)).alloc _)
      have S8 : Hid (RowR orec (w7.alloc (.cells #[.int .i64 y.a, .int .i64 x.kind, .int .i64 x.cause, .int .i64 y.b, .int .u64 x.tm] 59)) (some ⟨w7.heap.size, 0, none⟩) 1 [(⟨y.a, x.kind, x.cause, y.b, x.tm⟩ : Ot)]) := Lib.hid (RowR.one (R := orec) w7 ⟨y.a, x.kind, x.cause, y.b, x.tm⟩ 59 (cs := #[.int .i64 y.a, .int .i64 x.kind, .int .i64 x.cause, .int .i64 y.b, .int .u64 x.tm]) rfl)
      have L8 : Hid ((toldL x (L.take j)).length + 1 ≤ 1048576) := Lib.hid (by rw [toldL, List.length_map, List.length_take]; omega)
      have Z8 : Hid (V.heap.size ≤ (w7.alloc (.cells #[.int .i64 y.a, .int .i64 x.kind, .int .i64 x.cause, .int .i64 y.b, .int .u64 x.tm] 59)).heap.size) := Lib.hid (F9.out.alloc _).size
      obtain ⟨m0, m1, m2, m3, m4⟩ := cellsO K7.out
      simp only at m0 m1 m2 m3 m4
      clear F57 HS KL OD KR OW
      go_wp2_with (first
        | (at_builtin; refine wpList_appS tO (base := V.heap.size) rfl (.tmp 33) (.tmp 35) rfl rfl rfl O8.out S8.out L8.out Z8.out ?_;
           intro y9 w9 own gr _; have LO := Lib.hid (grown_low gr Z8.out (fun g hg => O8.out.low g hg)); have OX := Lib.hid own; clear own gr))
      go_roundg (q - (j + 1))
      case measure => have := HJ.out; omega
      case rel =>
        refine ⟨j + 1, y.a, y.b, by omega, by simp, ?_, ?_, (F9.out.alloc _).then_low LO.out⟩
        · rw [take_more HX.out, toldL_snoc]
          exact OX.out
        · exact (LO.out.block _ (by have := SV.out; omega)).trans (kb_alloc K7.out _)
    · have hlt' : ¬ (j : Int) < q := by omega
      obtain ⟨P', n', c', hv9, r9, _, _, _⟩ := OW.out.row'
      subst hv9
      have R9 := Lib.hid r9
      have hjq : j = q := by have := HJ.out; omega
      have LT : Hid (L.take j = L) := Lib.hid (List.take_of_length_le (by rw [QL.out]; omega))
      clear r9 pr
      go_wp2
      go_ret
      have h2 := R9.out
      rw [LT.out, HLL.out] at h2
      exact ⟨_, _, ⟨_, rfl⟩, h2, BV.out.trans (FF.out.below BV.out.size (fun j hj e => by omega))⟩

set_option maxRecDepth 100000 in
set_option maxHeartbeats 4000000 in
theorem kfailed_any (A : Option Addr) (n c : Nat) (M : Option Addr) (m d : Nat) (ms : List P2) (x : Ot) (w : World) (h : RowR prec w M m ms) (hm : m ≤ 1000) :
    Calls Try.prog 54 #[batV A n c M m d, outV x] w fun r w' => ∃ P q f, r = .returned (.slice P q f) ∧ RowR orec w' P q (failedL x ms) ∧ Below w.heap.size w w' := by
  obtain ⟨V, hW, hb, k0, k1, hsz⟩ := two_new w (bobj 34 A n c M m d) (vobj 59 x.vals)
  have HW : Hid ((w.alloc (.cells #[.slice A n c, .slice M m d] 34)).alloc (.cells #[.int .i64 x.id, .int .i64 x.kind, .int .i64 x.cause, .int .i64 x.val, .int .u64 x.tm] 59) = V) := Lib.hid hW
  obtain ⟨q0, q1⟩ := bobj_cells k0
  have BV := Lib.hid hb
  have KB := Lib.hid k0
  have KV := Lib.hid k1
  have SV := Lib.hid hsz
  have QL := Lib.hid h.1
  have PR := Lib.hid (h.later hb)
  have PL : Hid (∀ b off, M = some ⟨b, off, none⟩ → 0 < m → b < w.heap.size) := Lib.hid (fun b off e h0 => h.lt e h0)
  clear hW hb k0 k1 hsz h
  go_enter Try.func54, Try.ntmps54
  go_upto_region 1 with fail
  rw [HW.out]
  go_wp2_with (first
    | (refine wpList_makeS tO rfl _ _ rfl rfl rfl (by omega) ?_; intro w1 o1 b1; have O1 := Lib.hid o1; have B1 := Lib.hid b1; clear q0 q1; obtain ⟨q0, q1⟩ := bobj_cells (kb_below KB.out b1); clear o1 b1))
  clear q0 q1
  go_loopg [15, 5] m (fun g v15 v5 wr => ∃ (j : Nat) (i : Int), j + g = m ∧ v15 = .int .i64 j ∧ OwnR orec wr V.heap.size 59 v5 (failedL x (ms.take j)) ∧ wr.heap[w.heap.size + 1]? = some (vobj 59 (Ot.mk i x.kind x.cause x.val x.tm).vals) ∧ Frm (· = w.heap.size + 1) V wr)
  case atStart => exact ⟨0, x.id, by omega, rfl, by simpa [failedL] using O1.out, kb_below KV.out B1.out, Frm.of_below B1.out⟩
  case round =>
    obtain ⟨j, i, hj, rfl, hown, hk, hf⟩ := hrel
    have HJ := Lib.hid hj
    have OW := Lib.hid hown
    have KR := Lib.hid hk
    have FF := Lib.hid hf
    have pr : RowR prec wr M m ms := PR.out.apart hf (fun b off e h0 hx => by have := PL.out b off e h0; omega)
    clear hj hown hk hf O1 B1
    by_cases hlt : j < m
    · have hlt' : (j : Int) < m := by omega
      obtain ⟨b, off, y, rfl, hx, q0, q1⟩ := pr.pair_at hlt
      have HX := Lib.hid hx
      have hsr : w.heap.size + 2 ≤ wr.heap.size := by have := FF.out.size; have := SV.out; omega
      have SR := Lib.hid hsr
      clear hx pr hsr
      go_upto_region 5 with fail
      have fd : Frm (· = w.heap.size + 1) V (wr.alloc (.cells #[.int .i64 y.a, .int .i64 y.b] 105)) := FF.out.alloc _
      have kg : (wr.alloc (.cells #[.int .i64 y.a, .int .i64 y.b] 105)).heap[wr.heap.size]? = some (.cells #[.int .i64 y.a, .int .i64 y.b] 105) := heap_alloc_at wr _
      have kl : (wr.alloc (.cells #[.int .i64 y.a, .int .i64 y.b] 105)).heap[w.heap.size + 1]? = some (vobj 59 (Ot.mk i x.kind x.cause x.val x.tm).vals) := kb_alloc KR.out _
      have ow : OwnR orec (wr.alloc (.cells #[.int .i64 y.a, .int .i64 y.b] 105)) V.heap.size 59 u5 (failedL x (ms.take j)) := OW.out.alloc _
      generalize (wr.alloc (.cells #[.int .i64 y.a, .int .i64 y.b] 105)) = wd at *
      have FD := Lib.hid fd
      have KL := Lib.hid kl
      have OD := Lib.hid ow
      have g0 : wd.cell? ⟨wr.heap.size, 0, none⟩ = some (.int .i64 y.a) := by rw [cell_of kg]; rfl
      have L8 : Hid ((failedL x (ms.take j)).length + 1 ≤ 1048576) := Lib.hid (by rw [failedL, List.length_map, List.length_take]; omega)
      clear fd kg kl ow q0 q1 KR OW
      go_wp2_with (first
        | (refine wpList_store_one rfl 3 _ _ rfl (w.heap.size + 1) 0 59 (Ot.mk i x.kind x.cause x.val x.tm).vals (.int .i64 y.a) rfl rfl ?hz (by show 0 < 5; decide) size1i rfl rfl ?_; (case hz => exact KL.out); intro w7 k7 f7 z7; clear z7;
           have K7 : Hid (w7.heap[w.heap.size + 1]? = some (vobj 59 (Ot.mk y.a x.kind x.cause x.val x.tm).vals)) := Lib.hid k7;
           have F9 : Hid (Frm (· = w.heap.size + 1) V w7) := Lib.hid (FD.out.trans f7 (fun _ _ e => e));
           have O8 : Hid (OwnR orec (w7.alloc (.cells #[.int .i64 y.a, .int .i64 x.kind, .int .i64 x.cause, .int .i64 x.val, .int .u64 x.tm] 59)) V.heap.size 59 u5 (failedL x (ms.take j))) := Lib.hid ((OD.out.frm_low f7 (fun j e => by have := SV.out; omega)).alloc _);
           have S8 : Hid (RowR orec (w7.alloc (.cells #[.int .i64 y.a, .int .i64 x.kind, .int .i64 x.cause, .int .i64 x.val, .int .u64 x.tm] 59)) (some ⟨w7.heap.size, 0, none⟩) 1 [(⟨y.a, x.kind, x.cause, x.val, x.tm⟩ : Ot)]) := Lib.hid (RowR.one (R := orec) w7 ⟨y.a, x.kind, x.cause, x.val, x.tm⟩ 59 (cs := #[.int .i64 y.a, .int .i64 x.kind, .int .i64 x.cause, .int .i64 x.val, .int .u64 x.tm]) rfl);
           have Z8 : Hid (V.heap.size ≤ (w7.alloc (.cells #[.int .i64 y.a, .int .i64 x.kind, .int .i64 x.cause, .int .i64 x.val, .int .u64 x.tm] 59)).heap.size) := Lib.hid (F9.out.alloc _).size;
           obtain ⟨m0, m1, m2, m3, m4⟩ := cellsO K7.out;
           simp only at m0 m1 m2 m3 m4;
           clear k7 f7 g0 KL OD)
        | (at_builtin; refine wpList_appS tO (base := V.heap.size) rfl (.tmp 22) (.tmp 24) rfl rfl rfl O8.out S8.out L8.out Z8.out ?_;
           intro y9 w9 own gr _; have LO := Lib.hid (grown_low gr Z8.out (fun g hg => O8.out.low g hg)); have OX := Lib.hid own; clear own gr))
      go_roundg (m - (j + 1))
      case measure => have := HJ.out; omega
      case rel =>
        refine ⟨j + 1, y.a, by omega, by simp, ?_, ?_, (F9.out.alloc _).then_low LO.out⟩
        · rw [take_more HX.out, failedL_snoc]
          exact OX.out
        · exact (LO.out.block _ (by have := SV.out; omega)).trans (kb_alloc K7.out _)
    · have hlt' : ¬ (j : Int) < m := by omega
      obtain ⟨P', n', c', hv9, r9, _, _, _⟩ := OW.out.row'
      subst hv9
      have R9 := Lib.hid r9
      have hjq : j = m := by have := HJ.out; omega
      have LT : Hid (ms.take j = ms) := Lib.hid (List.take_of_length_le (by rw [QL.out]; omega))
      clear r9 pr
      go_wp2
      go_ret
      have h2 := R9.out
      rw [LT.out] at h2
      exact ⟨_, _, ⟨_, rfl⟩, h2, BV.out.trans (FF.out.below BV.out.size (fun j hj e => by omega))⟩

/-- What came of a call's members. -/
def outsL (zs : List Int) (ms : List P2) (K : CN) (kind : Int) (vs : List Int) (t : Int) : List Ot :=
  if kind = 1 then toldL ⟨0, kind, 0, 0, t⟩ (splitL zs ms vs) else if kind = 3 then toldL ⟨0, kind, K.ca, 0, t⟩ (splitL zs ms vs) else if kind = 4 then failedL ⟨0, kind, K.ca, 0, t⟩ ms else []
set_option maxRecDepth 100000 in
set_option maxHeartbeats 2000000 in
theorem kouts_any (A : Option Addr) (n c : Nat) (M : Option Addr) (m d : Nat) (K : CN) (zs : List Int) (ms : List P2) (kind : Int) (B : Option Addr) (k e : Nat) (vs : List Int) (t : Int) (w : World) (h : Bat w A n c M m d zs ms) (hv : RowR irec w B k vs) (hm : m ≤ 1000) :
    Calls Try.prog 25 #[callV A n c M m d K, .int .i64 kind, .slice B k e, .int .u64 t] w fun r w' => ∃ P q f, r = .returned (.slice P q f) ∧ RowR orec w' P q (outsL zs ms K kind vs t) ∧ Below w.heap.size w w' := by
  have hb := below_alloc w (kobj A n c M m d K)
  have k0 := heap_alloc_at w (kobj A n c M m d K)
  have q0 : (w.alloc (.cells #[.slice A n c, .slice M m d, .int .i64 K.st, .int .i64 K.sp, .int .i64 K.ca, .int .u64 K.tm] 36)).cell? ⟨w.heap.size, 0, none⟩ = some (.slice A n c) := vobj_cell k0 rfl
  have q1 : (w.alloc (.cells #[.slice A n c, .slice M m d, .int .i64 K.st, .int .i64 K.sp, .int .i64 K.ca, .int .u64 K.tm] 36)).cell? ⟨w.heap.size, 1, none⟩ = some (.slice M m d) := vobj_cell k0 rfl
  have B0 : Hid (Below w.heap.size w (w.alloc (.cells #[.slice A n c, .slice M m d, .int .i64 K.st, .int .i64 K.sp, .int .i64 K.ca, .int .u64 K.tm] 36))) := Lib.hid hb
  have HT := Lib.hid (fun x => ktold_any A n c M m d zs ms B k e vs x (w.alloc (.cells #[.slice A n c, .slice M m d, .int .i64 K.st, .int .i64 K.sp, .int .i64 K.ca, .int .u64 K.tm] 36)) (h.below hb) (hv.later hb) hm)
  have HF := Lib.hid (fun x => kfailed_any A n c M m d ms x (w.alloc (.cells #[.slice A n c, .slice M m d, .int .i64 K.st, .int .i64 K.sp, .int .i64 K.ca, .int .u64 K.tm] 36)) (h.mr.later hb) hm)
  clear hb k0 h hv hm
  by_cases h1 : kind = 1
  · have e1 : (kind == 1) = true := by simp [h1]
    rw [show outsL zs ms K kind vs t = toldL ⟨0, kind, 0, 0, t⟩ (splitL zs ms vs) by simp [outsL, h1]]
    clear h1
    go_enter Try.func25, Try.ntmps25
    go_wp2_with fail
    refine (HT.out ⟨0, kind, 0, 0, t⟩).mono ?_
    rintro r V ⟨P, q, f, rfl, hr, bV⟩
    have R9 := Lib.hid hr
    have B9 := Lib.hid (B0.out.trans (bV.mono B0.out.size))
    clear hr bV q0 q1
    go_wp2
    go_ret
    exact ⟨_, _, _, rfl, R9.out, B9.out⟩
  · have e1 : (kind == 1) = false := by simp [h1]
    by_cases h3 : kind = 3
    · have e3 : (kind == 3) = true := by simp [h3]
      rw [show outsL zs ms K kind vs t = toldL ⟨0, kind, K.ca, 0, t⟩ (splitL zs ms vs) by simp [outsL, h3]]
      clear h1 h3
      go_enter Try.func25, Try.ntmps25
      go_wp2_with fail
      refine (HT.out ⟨0, kind, K.ca, 0, t⟩).mono ?_
      rintro r V ⟨P, q, f, rfl, hr, bV⟩
      have R9 := Lib.hid hr
      have B9 := Lib.hid (B0.out.trans (bV.mono B0.out.size))
      clear hr bV q0 q1
      go_wp2
      go_ret
      exact ⟨_, _, _, rfl, R9.out, B9.out⟩
    · have e3 : (kind == 3) = false := by simp [h3]
      by_cases h4 : kind = 4
      · have e4 : (kind == 4) = true := by simp [h4]
        rw [show outsL zs ms K kind vs t = failedL ⟨0, kind, K.ca, 0, t⟩ ms by simp [outsL, h4]]
        clear h1 h3 h4
        go_enter Try.func25, Try.ntmps25
        go_wp2_with fail
        refine (HF.out ⟨0, kind, K.ca, 0, t⟩).mono ?_
        rintro r V ⟨P, q, f, rfl, hr, bV⟩
        have R9 := Lib.hid hr
        have B9 := Lib.hid (B0.out.trans (bV.mono B0.out.size))
        clear hr bV q0 q1
        go_wp2
        go_ret
        exact ⟨_, _, _, rfl, R9.out, B9.out⟩
      · have e4 : (kind == 4) = false := by simp [h4]
        rw [show outsL zs ms K kind vs t = [] by simp [outsL, h1, h3, h4]]
        clear h1 h3 h4
        go_enter Try.func25, Try.ntmps25
        go_wp2
        go_ret
        exact ⟨none, 0, 0, rfl, RowR.nil _, B0.out⟩
end Go.Proofs.Ytpfmjocpgnoepaa
