/- Contracts of package coll: Add. Written by wip/tools/gen_coladd.py. -/
import Derived.Test.YtpfmjocpgnoepaaCol
import Derived.Test.YtpfmjocpgnoepaaHand
import Derived.Deep.DeepCutAuto
namespace Go.Proofs.Ytpfmjocpgnoepaa
set_option linter.unusedVariables false
open Go.ChangeShapes Go.WideShapes Go.ChangeAt Go.RowKit

abbrev svals (o r : Bool) (E : Int) (A : Option Addr) (n c : Nat) (M : Option Addr) (m d : Nat) : List Value := [.bool o, .bool r, .int .u64 E, .slice A n c, .slice M m d]
abbrev sobj (o r : Bool) (E : Int) (A : Option Addr) (n c : Nat) (M : Option Addr) (m d : Nat) : Obj := vobj 93 (svals o r E A n c M m d)
abbrev stepV (o r : Bool) (E : Int) (A : Option Addr) (n c : Nat) (M : Option Addr) (m d : Nat) : Value := .agg (aggV (svals o r E A n c M m d))
theorem undS : ∃ fs, Try.prog.underlying 93 = some (.struct fs) := ⟨_, Try.underlying93⟩
theorem sizeS : (Try.prog.info? 93).map (·.size) = some 5 := by kernel_rfl
theorem size1b : (Try.prog.info? 4).map (·.size) = some 1 := by kernel_rfl
theorem onesS (o r : Bool) (E : Int) (A M : Option Addr) (n c m d : Nat) : Ones (svals o r E A n c M m d) := by intro v hv; simp at hv; rcases hv with rfl | rfl | rfl | rfl | rfl <;> rfl
theorem onesC (A M : Option Addr) (n c m d : Nat) (E : Int) : Ones [.slice A n c, .slice M m d, .int .u64 E] := by intro v hv; simp at hv; rcases hv with rfl | rfl | rfl <;> rfl
theorem loadS {w : World} {g : Nat} {vs : List Value} (h : w.heap[g]? = some (vobj 93 vs)) (hl : vs.length = 5) : (loadVar 93 ⟨g, 0, none⟩).run Try.prog w = .ok (.agg (aggV vs)) w := by
  obtain ⟨fs, hu⟩ := undS
  exact run_load_agg w _ g vs _ h hu rfl (by rw [hl]; exact sizeS)
theorem ColAt.put {w w' : World} {b : Nat} {S : CO} {A M : Option Addr} {n c m d : Nat} {zs : List Int} {ms : List P2} {E : Int} (k : w'.heap[b]? = some (cobj S.win S.most A n c M m d E)) (hb : Bat w A n c M m d zs ms) (hA : Fresh (b + 1) A) (hM : Fresh (b + 1) M) (hf : Frm (· = b) w w') : ColAt w' b ⟨S.win, S.most, zs, ms, E⟩ A n c M m d :=
  ⟨k, hb.apart hA hM hf, hA, hM⟩

theorem size1u : (Try.prog.info? 26).map (·.size) = some 1 := by kernel_rfl
/-- A block of two slices, or of a step, is no row of integers. -/
theorem RowR.asideI {w w' : World} {A : Option Addr} {n g : Nat} {V : List Int} {ty : TypeId} {vs : List Value} (h : RowR irec w A n V) (hf : Frm (· = g) w w') (hg : w.heap[g]? = some (vobj ty vs)) (hv : ∀ z, Value.int .i64 z ∉ vs) : RowR irec w' A n V := by
  by_cases h0 : n = 0
  · exact ⟨h.1, h.2.1, .inl h0⟩
  · obtain ⟨b, off, z, e, _, hc⟩ := h.int_at (i := 0) (by omega)
    refine h.frm hf (fun b' off' e' he => ?_)
    rw [e] at e'
    cases e'
    rw [show b = g from he, cell_of hg] at hc
    have : vs[off + 0]? = some (.int .i64 z) := by simpa [aggV] using hc
    exact hv z (List.mem_of_getElem? this)
theorem RowR.asideP {w w' : World} {A : Option Addr} {n g : Nat} {V : List P2} {ty : TypeId} {vs : List Value} (h : RowR prec w A n V) (hf : Frm (· = g) w w') (hg : w.heap[g]? = some (vobj ty vs)) (hv : ∀ z, Value.int .i64 z ∉ vs) : RowR prec w' A n V := by
  by_cases h0 : n = 0
  · exact ⟨h.1, h.2.1, .inl h0⟩
  · obtain ⟨b, off, z, e, _, hc, _⟩ := h.pair_at (i := 0) (by omega)
    refine h.frm hf (fun b' off' e' he => ?_)
    rw [e] at e'
    cases e'
    rw [show b = g from he, cell_of hg] at hc
    have : vs[off + 0 * 2]? = some (.int .i64 z.a) := by simpa [aggV] using hc
    exact hv _ (List.mem_of_getElem? this)
theorem Bat.aside {w w' : World} {A M : Option Addr} {n c m d g : Nat} {zs : List Int} {ms : List P2} {ty : TypeId} {vs : List Value} (h : Bat w A n c M m d zs ms) (hf : Frm (· = g) w w') (hg : w.heap[g]? = some (vobj ty vs)) (hv : ∀ z, Value.int .i64 z ∉ vs) : Bat w' A n c M m d zs ms :=
  ⟨h.ar.asideI hf hg hv, h.mr.asideP hf hg hv, h.nc, h.md, h.fits⟩
theorem noneS (o r : Bool) (E : Int) (A M : Option Addr) (n c m d : Nat) : ∀ z, Value.int .i64 z ∉ svals o r E A n c M m d := by intro z; simp
theorem ColAt.aside {w w' : World} {b g : Nat} {S : CO} {A M : Option Addr} {n c m d : Nat} {o r : Bool} {E : Int} {A' M' : Option Addr} {n' c' m' d' : Nat} (h : ColAt w b S A n c M m d) (hf : Frm (· = g) w w') (hb : b ≠ g) (hg : w.heap[g]? = some (sobj o r E A' n' c' M' m' d')) : ColAt w' b S A n c M m d :=
  ⟨(hf.block b (heap_lt h.blk) hb).trans h.blk, h.bat.aside hf hg (noneS _ _ _ _ _ _ _ _ _), h.frA, h.frM⟩
/-- A command that comes while a window is open, or that opens one: up to where it is asked whether the batch is full. -/
structure Came (w wc : World) (b g8 g9 : Nat) (S' : CO) (o : Bool) (E : Int) (A : Option Addr) (n c : Nat) (M : Option Addr) (m d : Nat) : Prop where
  col : ColAt wc b S' A n c M m d
  k8 : wc.heap[g8]? = some (sobj false false 0 none 0 0 none 0 0)
  k9 : wc.heap[g9]? = some (sobj o false E none 0 0 none 0 0)
  frm : Frm (· = b) w wc
  frA : Fresh w.heap.size A
  frM : Fresh w.heap.size M
/-- A window whose rows are new since there were lo blocks. -/
def ColF (w : World) (b : Nat) (S : CO) (lo : Nat) : Prop := ∃ A n c M m d, ColAt w b S A n c M m d ∧ Fresh lo A ∧ Fresh lo M
section
variable {w w' : World} {b lo lo' : Nat} {S : CO}
theorem ColF.col (h : ColF w b S lo) : Col w b S := by
  obtain ⟨A, n, c, M, m, d, h, _⟩ := h
  exact ⟨A, n, c, M, m, d, h⟩
theorem ColF.mono (h : ColF w b S lo) (hl : lo' ≤ lo) : ColF w b S lo' := by
  obtain ⟨A, n, c, M, m, d, h, h1, h2⟩ := h
  exact ⟨A, n, c, M, m, d, h, h1.mono hl, h2.mono hl⟩
theorem ColF.below (h : ColF w b S lo) (hb : Below w.heap.size w w') : ColF w' b S lo := by
  obtain ⟨A, n, c, M, m, d, h, h1, h2⟩ := h
  exact ⟨A, n, c, M, m, d, h.below hb, h1, h2⟩
theorem ColF.lt (h : ColF w b S lo) : b < w.heap.size := by
  obtain ⟨A, n, c, M, m, d, h, h1, h2⟩ := h
  exact h.lt
theorem ColF.aside {g : Nat} {o r : Bool} {E : Int} {A' M' : Option Addr} {n' c' m' d' : Nat} (h : ColF w b S lo) (hf : Frm (· = g) w w') (hb : b ≠ g) (hg : w.heap[g]? = some (sobj o r E A' n' c' M' m' d')) : ColF w' b S lo := by
  obtain ⟨A, n, c, M, m, d, h, h1, h2⟩ := h
  exact ⟨A, n, c, M, m, d, h.aside hf hb hg, h1, h2⟩
end

set_option maxRecDepth 100000 in
set_option maxHeartbeats 4000000 in
theorem add_at (b : Nat) (S : CO) (A : Option Addr) (n c : Nat) (M : Option Addr) (m d : Nat) (now id x : Int) (w : World) (h : ColAt w b S A n c M m d) (hid : wf64 id) (hn : n ≤ 1000) (hm : m ≤ 1000) (hw0 : 0 ≤ S.win) (hw1 : S.win ≤ 18446744073709551615) (ht0 : 0 ≤ now) (ht1 : now ≤ 18446744073709551615) :
    Calls Try.prog 46 #[.pointer (some ⟨b, 0, none⟩), .int .u64 now, .int .i64 id, .int .i64 x] w fun r w' => ∃ A' n' c' M' m' d', r = .returned (stepV (!S.opn) (S.full1 x) (S.step now id x).due A' n' c' M' m' d') ∧ ColF w' b (S.next now id x) w.heap.size ∧ Bat w' A' n' c' M' m' d' (S.step now id x).zs (S.step now id x).ms ∧ (Fresh w.heap.size A' ∧ Fresh w.heap.size M') ∧ Frm (· = b) w w' := by
  obtain ⟨W, hW, hbW, k8, k9, hszW⟩ := two_new w (sobj false false 0 none 0 0 none 0 0) (sobj false false 0 none 0 0 none 0 0)
  have hO := open_at b S A n c M m d W (h.below hbW)
  have HW : Hid ((w.alloc (.cells #[.bool false, .bool false, .int .u64 0, .slice none 0 0, .slice none 0 0] 93)).alloc (.cells #[.bool false, .bool false, .int .u64 0, .slice none 0 0, .slice none 0 0] 93) = W) := Lib.hid hW
  have BW := Lib.hid hbW
  have K8 := Lib.hid k8
  have K9 := Lib.hid k9
  have HO := Lib.hid hO
  have HL := Lib.hid h.lt
  have H := Lib.hid (h.below hbW)
  have SW := Lib.hid hszW
  have hop := h.opn
  have OP := Lib.hid hop
  clear h hW hbW k8 k9 hO hszW hop
  go_enter Try.func46, Try.ntmps46
  go_upto_if 14 with (first
    | (rw [HW.out]; refine HO.out.mono ?_; rintro r wz ⟨rfl, hz⟩; rw [← hz]; clear hz wz HO HW))
  go_cut [] (fun wc => ∃ A1 n1 c1 M1 m1 d1, Came w wc b w.heap.size (w.heap.size + 1) (S.more now id x) (!S.opn) (S.step now id x).due A1 n1 c1 M1 m1 d1)
  case first =>
    have HD : Hid (ColAt W.drew b S A n c M m d) := Lib.hid (H.out.below (ali_below (drew_ali W)))
    have K8d : Hid (W.drew.heap[w.heap.size]? = some (sobj false false 0 none 0 0 none 0 0)) := K8
    have K9d : Hid (W.drew.heap[w.heap.size + 1]? = some (sobj false false 0 none 0 0 none 0 0)) := K9
    have BD : Hid (Below w.heap.size w W.drew) := Lib.hid (BW.out.trans ((ali_below (drew_ali W)).mono BW.out.size))
    have G : Hid (b + 1 ≤ W.drew.heap.size) := Lib.hid HD.out.lt
    obtain ⟨c0, c1, c2, c3, c4⟩ := HD.out.cells
    by_cases hop : 0 < m
    · have hop' : decide (0 < m) = true := decide_eq_true hop
      have OP' : Hid (S.opn = true) := Lib.hid (OP.out.trans hop')
      clear hop'
      clear c0 c4 H K8 K9 BW OP SW
      have HADD := Lib.hid (badd_any A n c M m d S.zs S.ms id x S.most W.drew HD.out.bat hid hn hm)
      go_wp2
      refine wp_region_held_drew (S := fun wx => wx.cell? ⟨b, 1, none⟩ = some (.int .i64 S.most)) (by kernel_rfl) c1 (fun hHeld => ?_)
      generalize W.drew = wd at *
      refine wpAnyH_take (i := 0) (oi := ⟨_, _, _, _, _, _⟩) (v := ?_) rfl (by kernel_rfl) (by kernel_rfl) (by kernel_rfl) (fun _ _ _ h => h) (Or.inl ⟨by rfl, ?_⟩) (by assumption) ?_
      rotate_left
      · intro w hSw; (try dsimp only at hSw); go_simp; try (with_reducible rfl)
      try go_frame
      refine wpAnyH_take (i := 1) (oi := ⟨_, _, _, _, _, _⟩) (v := ?_) rfl (by kernel_rfl) (by kernel_rfl) (by kernel_rfl) (fun _ _ _ h => h) (Or.inl ⟨by rfl, ?_⟩) (by assumption) ?_
      rotate_left
      · intro w hSw; (try dsimp only at hSw); go_simp; try (with_reducible rfl)
      try go_frame
      refine wpAnyH_take (i := 2) (oi := ⟨_, _, _, _, _, _⟩) (v := ?_) rfl (by kernel_rfl) (by kernel_rfl) (by kernel_rfl) (fun _ _ _ h => h) (Or.inl ⟨by rfl, ?_⟩) (by assumption) ?_
      rotate_left
      · intro w hSw; (try dsimp only at hSw); go_simp; try (with_reducible rfl)
      try go_frame
      refine wpAnyH_take (i := 3) (oi := ⟨_, _, _, _, _, _⟩) (v := ?_) rfl (by kernel_rfl) (by kernel_rfl) (by kernel_rfl) (fun _ _ _ h => h) (Or.inl ⟨by rfl, ?_⟩) (by assumption) ?_
      rotate_left
      · intro w hSw; (try dsimp only at hSw); go_simp; try (with_reducible rfl)
      try go_frame
      refine wpAnyH_take (i := 4) (oi := ⟨_, _, _, _, _, _⟩) (v := ?_) rfl (by kernel_rfl) (by kernel_rfl) (by kernel_rfl) (fun _ _ _ h => h) (Or.inl ⟨by rfl, ?_⟩) (by assumption) ?_
      rotate_left
      · intro w hSw; (try dsimp only at hSw); go_simp; try (with_reducible rfl)
      try go_frame
      refine wpAnyH_take (i := 6) (oi := ⟨_, _, _, _, _, _⟩) (v := ?_) rfl (by kernel_rfl) (by kernel_rfl) (by kernel_rfl) (fun _ _ _ h => h) (Or.inl ⟨by rfl, ?_⟩) (by assumption) ?_
      rotate_left
      · intro w hSw; (try dsimp only at hSw); go_simp; try (with_reducible rfl)
      try go_frame
      refine wpAnyH_take (i := 7) (oi := ⟨_, _, _, _, _, _⟩) (v := ?_) rfl (by kernel_rfl) (by kernel_rfl) (by kernel_rfl) (fun _ _ _ h => h) (Or.inl ⟨by rfl, ?_⟩) (by assumption) ?_
      rotate_left
      · intro w hSw; (try dsimp only at hSw); go_simp; try (with_reducible rfl)
      try go_frame
      refine wpAnyH_take (i := 8) (oi := ⟨_, _, _, _, _, _⟩) (v := ?_) rfl (by kernel_rfl) (by kernel_rfl) (by kernel_rfl) (fun _ _ _ h => h) (Or.inl ⟨by rfl, ?_⟩) (by assumption) ?_
      rotate_left
      · intro w hSw; (try dsimp only at hSw); go_simp; try (with_reducible rfl)
      try go_frame
      refine wpAnyH_take (i := 9) (oi := ⟨_, _, _, _, _, _⟩) (v := ?_) rfl (by kernel_rfl) (by kernel_rfl) (by kernel_rfl) (fun _ _ _ h => h) (Or.inl ⟨by rfl, ?_⟩) (by assumption) ?_
      rotate_left
      · intro w hSw; (try dsimp only at hSw); go_simp; try (with_reducible rfl)
      try go_frame
      refine wpAnyH_take (i := 10) (oi := ⟨_, _, _, _, _, _⟩) (v := ?_) rfl (by kernel_rfl) (by kernel_rfl) (by kernel_rfl) (fun _ _ _ h => h) (Or.inl ⟨by rfl, ?_⟩) (by assumption) ?_
      rotate_left
      · intro w hSw; (try dsimp only at hSw); go_simp; try (with_reducible rfl)
      try go_frame
      refine wpAnyH_take (i := 11) (oi := ⟨_, _, _, _, _, _⟩) (v := ?_) rfl (by kernel_rfl) (by kernel_rfl) (by kernel_rfl) (fun _ _ _ h => h) (Or.inl ⟨by rfl, ?_⟩) (by assumption) ?_
      rotate_left
      · intro w hSw; (try dsimp only at hSw); go_simp; try (with_reducible rfl)
      try go_frame
      refine wpAnyH_ready (rs := [5]) (by kernel_rfl) (by simp) ?_
      refine ready_cons (i := 5) (o := ⟨_, _, _, _, _, _⟩) rfl ?_ AllReadyH.nil
      intro K hK
      constructor
      go_simp
      refine hK.out _ _ c1 (fun hHeld => ?_)
      clear hK K
      try go_frame
      refine wpAnyH_ready (rs := [12]) (by kernel_rfl) (by simp) ?_
      refine ready_cons (i := 12) (o := ⟨_, _, _, _, _, _⟩) rfl ?_ AllReadyH.nil
      intro K hK
      refine call_step (f := 31) (args := #[batV A n c M m d, .int .i64 id, .int .i64 x, .int .i64 S.most]) rfl (by kernel_rfl) ?_
      refine HADD.out.mono ?_
      rintro r w5 ⟨A5, n5, c5, M5, m5, d5, rfl, b5, ⟨p5, q5⟩, l5⟩
      refine ⟨_, rfl, ?_⟩
      have B5 := Lib.hid b5
      have P5 := Lib.hid p5
      have Q5 := Lib.hid q5
      have L5 := Lib.hid l5
      have K5 := Lib.hid (kb_below HD.out.blk l5)
      refine hK.out _ _ (vobj_cell K5.out rfl) (fun hHeld => ?_)
      clear hK K HADD c1 c2 c3 b5 p5 q5 l5
      try go_frame
      refine wpAnyH_take (i := 13) (oi := ⟨_, _, _, _, _, _⟩) (v := ?_) rfl (by kernel_rfl) (by kernel_rfl) (by kernel_rfl) (fun _ _ _ h => h) (Or.inl ⟨by rfl, ?_⟩) (by assumption) ?_
      rotate_left
      · intro w hSw; (try dsimp only at hSw); go_simp; try (with_reducible rfl)
      try go_frame
      refine wpAnyH_take (i := 14) (oi := ⟨_, _, _, _, _, _⟩) (v := ?_) rfl (by kernel_rfl) (by kernel_rfl) (by kernel_rfl) (fun _ _ _ h => h) (Or.inl ⟨by rfl, ?_⟩) (by assumption) ?_
      rotate_left
      · intro w hSw; (try dsimp only at hSw); go_simp; try (with_reducible rfl)
      try go_frame
      refine wpAnyH_take (i := 15) (oi := ⟨_, _, _, _, _, _⟩) (v := ?_) rfl (by kernel_rfl) (by kernel_rfl) (by kernel_rfl) (fun _ _ _ h => h) (Or.inl ⟨by rfl, ?_⟩) (by assumption) ?_
      rotate_left
      · intro w hSw; (try dsimp only at hSw); go_simp; try (with_reducible rfl)
      try go_frame
      refine wpAnyH_take (i := 16) (oi := ⟨_, _, _, _, _, _⟩) (v := ?_) rfl (by kernel_rfl) (by kernel_rfl) (by kernel_rfl) (fun _ _ _ h => h) (Or.inl ⟨by rfl, ?_⟩) (by assumption) ?_
      rotate_left
      · intro w hSw; (try dsimp only at hSw); go_simp; try (with_reducible rfl)
      try go_frame
      refine wpAnyH_take (i := 17) (oi := ⟨_, _, _, _, _, _⟩) (v := ?_) rfl (by kernel_rfl) (by kernel_rfl) (by kernel_rfl) (fun _ _ _ h => h) (Or.inl ⟨by rfl, ?_⟩) (by assumption) ?_
      rotate_left
      · intro w hSw; (try dsimp only at hSw); go_simp; try (with_reducible rfl)
      try go_frame
      refine wpAnyH_take (i := 18) (oi := ⟨_, _, _, _, _, _⟩) (v := ?_) rfl (by kernel_rfl) (by kernel_rfl) (by kernel_rfl) (fun _ _ _ h => h) (Or.inl ⟨by rfl, ?_⟩) (by assumption) ?_
      rotate_left
      · intro w hSw; (try dsimp only at hSw); go_simp; try (with_reducible rfl)
      try go_frame
      refine wpAnyH_ready (rs := [19]) (by kernel_rfl) (by simp) ?_
      refine ready_cons (i := 19) (o := ⟨_, _, _, _, _, _⟩) rfl ?_ AllReadyH.nil
      intro K hK
      refine store_step rfl 34 _ _ rfl b 2 118 (cvals S.win S.most A n c M m d S.due) [.slice A5 n5 c5, .slice M5 m5 d5] rfl rfl K5.out (by show 2 + 2 ≤ 5; decide) sizeB (onesB _ _ _ _ _ _) ?_
      intro w6 k6 f6 _
      have K6 : Hid (w6.heap[b]? = some (cobj S.win S.most A5 n5 c5 M5 m5 d5 S.due)) := Lib.hid k6
      have F6 := Lib.hid f6
      refine hK.out _ _ (vobj_cell k6 rfl) (fun hHeld => ?_)
      clear hK K k6 f6
      try go_frame
      refine wpAnyH_done (by kernel_rfl) ?_ _
      go_wp2
      go_meet
      have e1 : S.more now id x = ⟨S.win, S.most, addA S.zs x S.most, addM S.zs S.ms id x S.most, S.due⟩ := by simp [CO.more, CO.zs1, CO.ms1, CO.due1, OP'.out]
      have e2 : (S.step now id x).due = 0 := by simp [CO.step, OP'.out]
      rw [e1, e2, OP'.out]
      have hL := HL.out
      have g8 := (F6.out.block _ (heap_lt (kb_below K8d.out L5.out)) (by show ¬ w.heap.size = b; omega)).trans (kb_below K8d.out L5.out)
      have g9 := (F6.out.block _ (heap_lt (kb_below K9d.out L5.out)) (by show ¬ w.heap.size + 1 = b; omega)).trans (kb_below K9d.out L5.out)
      exact ⟨A5, n5, c5, M5, m5, d5, ColAt.put K6.out B5.out (P5.out.mono G.out) (Q5.out.mono G.out) F6.out, g8, g9, ((Frm.of_below (F := (· = b)) BD.out).then_below L5.out).trans F6.out (fun _ _ e => e), P5.out.mono BD.out.size, Q5.out.mono BD.out.size⟩
    · have hop' : decide (0 < m) = false := decide_eq_false hop
      have OP' : Hid (S.opn = false) := Lib.hid (OP.out.trans hop')
      clear hop'
      clear c1 c2 c3 c4 H K8 K9 BW OP SW
      go_wp2
      refine wp_region_held_drew (S := fun wx => wx.cell? ⟨b, 0, none⟩ = some (.int .u64 S.win)) (by kernel_rfl) c0 (fun hHeld => ?_)
      generalize W.drew = wd at *
      refine wpAnyH_take (i := 0) (oi := ⟨_, _, _, _, _, _⟩) (v := ?_) rfl (by kernel_rfl) (by kernel_rfl) (by kernel_rfl) (fun _ _ _ h => h) (Or.inl ⟨by rfl, ?_⟩) (by assumption) ?_
      rotate_left
      · intro w hSw; (try dsimp only at hSw); go_simp; try (with_reducible rfl)
      try go_frame
      refine wpAnyH_take (i := 1) (oi := ⟨_, _, _, _, _, _⟩) (v := ?_) rfl (by kernel_rfl) (by kernel_rfl) (by kernel_rfl) (fun _ _ _ h => h) (Or.inl ⟨by rfl, ?_⟩) (by assumption) ?_
      rotate_left
      · intro w hSw; (try dsimp only at hSw); go_simp; try (with_reducible rfl)
      try go_frame
      refine wpAnyH_take (i := 2) (oi := ⟨_, _, _, _, _, _⟩) (v := ?_) rfl (by kernel_rfl) (by kernel_rfl) (by kernel_rfl) (fun _ _ _ h => h) (Or.inl ⟨by rfl, ?_⟩) (by assumption) ?_
      rotate_left
      · intro w hSw; (try dsimp only at hSw); go_simp; try (with_reducible rfl)
      try go_frame
      refine wpAnyH_take (i := 4) (oi := ⟨_, _, _, _, _, _⟩) (v := ?_) rfl (by kernel_rfl) (by kernel_rfl) (by kernel_rfl) (fun _ _ _ h => h) (Or.inl ⟨by rfl, ?_⟩) (by assumption) ?_
      rotate_left
      · intro w hSw; (try dsimp only at hSw); go_simp; try (with_reducible rfl)
      try go_frame
      refine wpAnyH_take (i := 5) (oi := ⟨_, _, _, _, _, _⟩) (v := ?_) rfl (by kernel_rfl) (by kernel_rfl) (by kernel_rfl) (fun _ _ _ h => h) (Or.inl ⟨by rfl, ?_⟩) (by assumption) ?_
      rotate_left
      · intro w hSw; (try dsimp only at hSw); go_simp; try (with_reducible rfl)
      try go_frame
      refine wpAnyH_take (i := 6) (oi := ⟨_, _, _, _, _, _⟩) (v := ?_) rfl (by kernel_rfl) (by kernel_rfl) (by kernel_rfl) (fun _ _ _ h => h) (Or.inl ⟨by rfl, ?_⟩) (by assumption) ?_
      rotate_left
      · intro w hSw; (try dsimp only at hSw); go_simp; try (with_reducible rfl)
      try go_frame
      refine wpAnyH_take (i := 7) (oi := ⟨_, _, _, _, _, _⟩) (v := ?_) rfl (by kernel_rfl) (by kernel_rfl) (by kernel_rfl) (fun _ _ _ h => h) (Or.inl ⟨by rfl, ?_⟩) (by assumption) ?_
      rotate_left
      · intro w hSw; (try dsimp only at hSw); go_simp; try (with_reducible rfl)
      try go_frame
      refine wpAnyH_take (i := 8) (oi := ⟨_, _, _, _, _, _⟩) (v := ?_) rfl (by kernel_rfl) (by kernel_rfl) (by kernel_rfl) (fun _ _ _ h => h) (Or.inl ⟨by rfl, ?_⟩) (by assumption) ?_
      rotate_left
      · intro w hSw; (try dsimp only at hSw); go_simp; try (with_reducible rfl)
      try go_frame
      refine wpAnyH_ready (rs := [3]) (by kernel_rfl) (by simp) ?_
      refine ready_cons (i := 3) (o := ⟨_, _, _, _, _, _⟩) rfl ?_ AllReadyH.nil
      intro K hK
      refine call_step (f := 35) (args := #[.int .i64 id, .int .i64 x]) rfl (by kernel_rfl) ?_
      refine (bone_any id x hid wd).mono ?_
      rintro r w5 ⟨A5, c5, M5, d5, rfl, b5, ⟨p5, q5⟩, l5⟩
      refine ⟨_, rfl, ?_⟩
      have B5 := Lib.hid b5
      have P5 := Lib.hid p5
      have Q5 := Lib.hid q5
      have L5 := Lib.hid l5
      have K5 := Lib.hid (kb_below HD.out.blk l5)
      refine hK.out _ _ (vobj_cell K5.out rfl) (fun hHeld => ?_)
      clear hK K c0 b5 p5 q5 l5
      try go_frame
      refine wpAnyH_ready (rs := [9]) (by kernel_rfl) (by simp) ?_
      refine ready_cons (i := 9) (o := ⟨_, _, _, _, _, _⟩) rfl ?_ AllReadyH.nil
      intro K hK
      refine call_step (f := 61) (args := #[.int .u64 now, .int .u64 S.win]) rfl (by kernel_rfl) ?_
      refine (add_any now S.win w5 ht0 hw0 ht1 hw1).mono ?_
      rintro r wz ⟨rfl, hz⟩
      rw [← hz]
      clear hz wz
      refine ⟨_, rfl, ?_⟩
      refine hK.out _ _ (vobj_cell K5.out rfl) (fun hHeld => ?_)
      clear hK K
      try go_frame
      refine wpAnyH_take (i := 10) (oi := ⟨_, _, _, _, _, _⟩) (v := ?_) rfl (by kernel_rfl) (by kernel_rfl) (by kernel_rfl) (fun _ _ _ h => h) (Or.inl ⟨by rfl, ?_⟩) (by assumption) ?_
      rotate_left
      · intro w hSw; (try dsimp only at hSw); go_simp; try (with_reducible rfl)
      try go_frame
      refine wpAnyH_take (i := 11) (oi := ⟨_, _, _, _, _, _⟩) (v := ?_) rfl (by kernel_rfl) (by kernel_rfl) (by kernel_rfl) (fun _ _ _ h => h) (Or.inl ⟨by rfl, ?_⟩) (by assumption) ?_
      rotate_left
      · intro w hSw; (try dsimp only at hSw); go_simp; try (with_reducible rfl)
      try go_frame
      refine wpAnyH_take (i := 12) (oi := ⟨_, _, _, _, _, _⟩) (v := ?_) rfl (by kernel_rfl) (by kernel_rfl) (by kernel_rfl) (fun _ _ _ h => h) (Or.inl ⟨by rfl, ?_⟩) (by assumption) ?_
      rotate_left
      · intro w hSw; (try dsimp only at hSw); go_simp; try (with_reducible rfl)
      try go_frame
      refine wpAnyH_ready (rs := [13]) (by kernel_rfl) (by simp) ?_
      refine ready_cons (i := 13) (o := ⟨_, _, _, _, _, _⟩) rfl ?_ AllReadyH.nil
      intro K hK
      refine store_step rfl 116 _ _ rfl b 2 118 (cvals S.win S.most A n c M m d S.due) [.slice A5 1 c5, .slice M5 1 d5, .int .u64 (addS now S.win)] rfl rfl K5.out (by show 2 + 3 ≤ 5; decide) sizeO (onesC _ _ _ _ _ _ _) ?_
      intro w6 k6 f6 _
      have K6 : Hid (w6.heap[b]? = some (cobj S.win S.most A5 1 c5 M5 1 d5 (addS now S.win))) := Lib.hid k6
      have F6 := Lib.hid f6
      refine hK.out _ _ (vobj_cell k6 rfl) (fun hHeld => ?_)
      clear hK K k6 f6
      try go_frame
      refine wpAnyH_done (by kernel_rfl) ?_ _
      go_wp2
      have hL := HL.out
      have NE : Hid (b ≠ w.heap.size + 1) := Lib.hid (by omega)
      have K8w := Lib.hid ((F6.out.block _ (heap_lt (kb_below K8d.out L5.out)) (by show ¬ w.heap.size = b; omega)).trans (kb_below K8d.out L5.out))
      have K9w : Hid (w6.drew.heap[w.heap.size + 1]? = some (sobj false false 0 none 0 0 none 0 0)) := Lib.hid ((F6.out.block _ (heap_lt (kb_below K9d.out L5.out)) (by show ¬ w.heap.size + 1 = b; omega)).trans (kb_below K9d.out L5.out))
      have C6 : Hid (ColAt w6.drew b ⟨S.win, S.most, [x], [⟨id, 0⟩], addS now S.win⟩ A5 1 c5 M5 1 d5) := Lib.hid (ColAt.put K6.out (B5.out) (P5.out.mono G.out) (Q5.out.mono G.out) (F6.out.ali (drew_ali _)))
      have FW : Hid (Frm (· = b) w w6.drew) := Lib.hid ((((Frm.of_below (F := (· = b)) BD.out).then_below L5.out).trans F6.out (fun _ _ e => e)).ali (drew_ali _))
      have PF := Lib.hid (P5.out.mono BD.out.size)
      have QF := Lib.hid (Q5.out.mono BD.out.size)
      clear hL K8d K9d HD BD G B5 P5 Q5 L5 K5 K6 F6 hHeld
      refine wp_region_held_drew (S := fun wx => wx.cell? ⟨b, 4, none⟩ = some (.int .u64 (addS now S.win))) (by kernel_rfl) (vobj_cell C6.out.blk rfl) (fun hHeld => ?_)
      have K8v : Hid (w6.drew.heap[w.heap.size]? = some (sobj false false 0 none 0 0 none 0 0)) := K8w
      clear K8w
      generalize w6.drew = wd6 at *
      refine wpAnyH_take (i := 0) (oi := ⟨_, _, _, _, _, _⟩) (v := ?_) rfl (by kernel_rfl) (by kernel_rfl) (by kernel_rfl) (fun _ _ _ h => h) (Or.inl ⟨by rfl, ?_⟩) (by assumption) ?_
      rotate_left
      · intro w hSw; (try dsimp only at hSw); go_simp; try (with_reducible rfl)
      try go_frame
      refine wpAnyH_take (i := 1) (oi := ⟨_, _, _, _, _, _⟩) (v := ?_) rfl (by kernel_rfl) (by kernel_rfl) (by kernel_rfl) (fun _ _ _ h => h) (Or.inl ⟨by rfl, ?_⟩) (by assumption) ?_
      rotate_left
      · intro w hSw; (try dsimp only at hSw); go_simp; try (with_reducible rfl)
      try go_frame
      refine wpAnyH_take (i := 2) (oi := ⟨_, _, _, _, _, _⟩) (v := ?_) rfl (by kernel_rfl) (by kernel_rfl) (by kernel_rfl) (fun _ _ _ h => h) (Or.inl ⟨by rfl, ?_⟩) (by assumption) ?_
      rotate_left
      · intro w hSw; (try dsimp only at hSw); go_simp; try (with_reducible rfl)
      try go_frame
      refine wpAnyH_take (i := 3) (oi := ⟨_, _, _, _, _, _⟩) (v := ?_) rfl (by kernel_rfl) (by kernel_rfl) (by kernel_rfl) (fun _ _ _ h => h) (Or.inl ⟨by rfl, ?_⟩) (by assumption) ?_
      rotate_left
      · intro w hSw; (try dsimp only at hSw); go_simp; try (with_reducible rfl)
      try go_frame
      refine wpAnyH_take (i := 4) (oi := ⟨_, _, _, _, _, _⟩) (v := ?_) rfl (by kernel_rfl) (by kernel_rfl) (by kernel_rfl) (fun _ _ _ h => h) (Or.inl ⟨by rfl, ?_⟩) (by assumption) ?_
      rotate_left
      · intro w hSw; (try dsimp only at hSw); go_simp; try (with_reducible rfl)
      try go_frame
      refine wpAnyH_take (i := 5) (oi := ⟨_, _, _, _, _, _⟩) (v := ?_) rfl (by kernel_rfl) (by kernel_rfl) (by kernel_rfl) (fun _ _ _ h => h) (Or.inl ⟨by rfl, ?_⟩) (by assumption) ?_
      rotate_left
      · intro w hSw; (try dsimp only at hSw); go_simp; try (with_reducible rfl)
      try go_frame
      refine wpAnyH_ready (rs := [6]) (by kernel_rfl) (by simp) ?_
      refine ready_cons (i := 6) (o := ⟨_, _, _, _, _, _⟩) rfl ?_ AllReadyH.nil
      intro K hK
      refine store1_step rfl 4 _ _ rfl (w.heap.size + 1) 0 93 (svals false false 0 none 0 0 none 0 0) (.bool true) rfl rfl K9w.out (by show 0 < 5; decide) size1b rfl rfl ?_
      intro w7 k7 f7 _
      have K7 : Hid (w7.heap[w.heap.size + 1]? = some (sobj true false 0 none 0 0 none 0 0)) := Lib.hid k7
      have F7 := Lib.hid f7
      have C7 := Lib.hid (C6.out.aside f7 NE.out K9w.out)
      refine hK.out _ _ (vobj_cell C7.out.blk rfl) (fun hHeld => ?_)
      clear hK K k7 f7
      try go_frame
      refine wpAnyH_take (i := 7) (oi := ⟨_, _, _, _, _, _⟩) (v := ?_) rfl (by kernel_rfl) (by kernel_rfl) (by kernel_rfl) (fun _ _ _ h => h) (Or.inl ⟨by rfl, ?_⟩) (by assumption) ?_
      rotate_left
      · intro w hSw; (try dsimp only at hSw); go_simp; try (with_reducible rfl)
      try go_frame
      refine wpAnyH_ready (rs := [8]) (by kernel_rfl) (by simp) ?_
      refine ready_cons (i := 8) (o := ⟨_, _, _, _, _, _⟩) rfl ?_ AllReadyH.nil
      intro K hK
      refine store1_step rfl 26 _ _ rfl (w.heap.size + 1) 2 93 (svals true false 0 none 0 0 none 0 0) (.int .u64 (addS now S.win)) rfl rfl K7.out (by show 2 < 5; decide) size1u rfl rfl ?_
      intro w8 k8 f8 _
      have K8w : Hid (w8.heap[w.heap.size + 1]? = some (sobj true false (addS now S.win) none 0 0 none 0 0)) := Lib.hid k8
      have F8 := Lib.hid f8
      have C8 := Lib.hid (C7.out.aside f8 NE.out K7.out)
      refine hK.out _ _ (vobj_cell C8.out.blk rfl) (fun hHeld => ?_)
      clear hK K k8 f8
      try go_frame
      refine wpAnyH_done (by kernel_rfl) ?_ _
      go_wp2
      go_meet
      have e1 : S.more now id x = ⟨S.win, S.most, [x], [⟨id, 0⟩], addS now S.win⟩ := by simp [CO.more, CO.zs1, CO.ms1, CO.due1, OP'.out]
      have e2 : (S.step now id x).due = addS now S.win := by simp [CO.step, OP'.out]
      rw [e1, e2, OP'.out]
      have hL := HL.out
      have g8a := (F7.out.block _ (heap_lt K8v.out) (by show ¬ w.heap.size = w.heap.size + 1; omega)).trans K8v.out
      have g8 := (F8.out.block _ (heap_lt g8a) (by show ¬ w.heap.size = w.heap.size + 1; omega)).trans g8a
      exact ⟨A5, 1, c5, M5, 1, d5, C8.out, g8, K8w.out, (FW.out.trans F7.out (fun j hj e => by omega)).trans F8.out (fun j hj e => by omega), PF.out, QF.out⟩
  case rest =>
    obtain ⟨A1, n1, c1, M1, m1, d1, hc⟩ := hcut
    have HC := Lib.hid hc.col
    have K8c := Lib.hid hc.k8
    have K9c := Lib.hid hc.k9
    have FC := Lib.hid hc.frm
    have FA := Lib.hid hc.frA
    have FM := Lib.hid hc.frM
    have NL : Hid (((S.zs1 x).length : Int) = n1) := Lib.hid (by have := hc.col.bat.alen; exact congrArg Int.ofNat this)
    have d1' : ∀ p : Later wc, p.v.cell? ⟨b, 1, none⟩ = some (.int .i64 S.most) := fun p => p.cell HC.out.cells.2.1
    have d2' : ∀ p : Later wc, p.v.cell? ⟨b, 2, none⟩ = some (.slice A1 n1 c1) := fun p => p.cell HC.out.cells.2.2.1
    have d3' : ∀ p : Later wc, p.v.cell? ⟨b, 3, none⟩ = some (.slice M1 m1 d1) := fun p => p.cell HC.out.cells.2.2.2.1
    have hF : ∀ p : Later wc, Calls Try.prog 38 #[batV A1 n1 c1 M1 m1 d1, .int .i64 S.most] p.v fun r w' => r = .returned (.bool (decide (S.most ≤ (n1 : Int)))) ∧ Below p.v.heap.size p.v w' := fun p => bfull_any A1 n1 c1 M1 m1 d1 S.most p.v
    have HF := Lib.hid hF
    obtain ⟨fs, hu⟩ := undS
    have HU := Lib.hid hu
    clear hc hF hu H K8 K9 BW OP SW
    go_wp2
    refine wp_region_later (by kernel_rfl) (by kernel_rfl) ?_
    repeat (first | go_big_quiet_step (first | (go_at_call 38; with_reducible exact Calls.later_of (HF.out _))))
    refine wpQuiet_nil ?_
    rintro w10 ⟨⟨_, b10⟩, rfl⟩
    have C10 := Lib.hid (HC.out.below b10)
    have K8v := Lib.hid (kb_below K8c.out b10)
    have K9v := Lib.hid (kb_below K9c.out b10)
    have F10 := Lib.hid (FC.out.then_below b10)
    have hL := HL.out
    have NE : Hid (b ≠ w.heap.size + 1) := Lib.hid (by omega)
    have NE' : Hid (b ≠ w.heap.size) := Lib.hid (by omega)
    clear HC K8c K9c FC b10 d1' d2' d3' HF hL
    by_cases hf : S.most ≤ (n1 : Int)
    · have ef : S.full1 x = true := by unfold CO.full1; rw [NL.out]; exact decide_eq_true hf
      have EF := Lib.hid ef
      have HSH := Lib.hid (shut_at b (S.more now id x) A1 n1 c1 M1 m1 d1 w10 C10.out)
      clear ef
      go_wp2_with (first
        | (go_at_call 62; refine HSH.out.mono ?_; rintro r w11 ⟨rfl, k11, b11, f11⟩; have C11 := Lib.hid k11; have B11 := Lib.hid b11; have k8' := Lib.hid ((f11.block _ (heap_lt K8v.out) (fun e => NE'.out e.symm)).trans K8v.out); have k9' := Lib.hid ((f11.block _ (heap_lt K9v.out) (fun e => NE.out e.symm)).trans K9v.out); have F11 := Lib.hid (F10.out.trans f11 (fun _ _ e => e)); clear k11 b11 f11 HSH)
        | (refine wpList_store_one rfl 4 _ _ rfl (w.heap.size + 1) 1 93 (svals (!S.opn) false (S.step now id x).due none 0 0 none 0 0) (.bool true) rfl rfl ?hz (by show 1 < 5; decide) size1b rfl rfl ?_; (case hz => exact k9'.out); intro w12 k12 f12 _; have K12 : Hid (w12.heap[w.heap.size + 1]? = some (sobj (!S.opn) true (S.step now id x).due none 0 0 none 0 0)) := Lib.hid k12; have G12 := Lib.hid f12; clear k12 f12)
        | (refine wpList_store_part rfl 34 _ _ rfl (w.heap.size + 1) 3 93 (svals (!S.opn) true (S.step now id x).due none 0 0 none 0 0) [.slice A1 n1 c1, .slice M1 m1 d1] rfl rfl ?hz (by show 3 + 2 ≤ 5; decide) sizeB (onesB _ _ _ _ _ _) ?_; (case hz => exact K12.out); intro w13 k13 f13 _; have K13 : Hid (w13.heap[w.heap.size + 1]? = some (sobj (!S.opn) true (S.step now id x).due A1 n1 c1 M1 m1 d1)) := Lib.hid k13; have G13 := Lib.hid f13; have k8x := Lib.hid ((f13.block w.heap.size (heap_lt ((G12.out.block w.heap.size (heap_lt k8'.out) (by show ¬ w.heap.size = w.heap.size + 1; omega)).trans k8'.out)) (by show ¬ w.heap.size = w.heap.size + 1; omega)).trans ((G12.out.block w.heap.size (heap_lt k8'.out) (by show ¬ w.heap.size = w.heap.size + 1; omega)).trans k8'.out)); clear k13 f13)
        | (refine wpList_load_agg rfl 93 _ rfl (w.heap.size + 1) rfl (svals (!S.opn) true (S.step now id x).due A1 n1 c1 M1 m1 d1) ?hz _ HU.out rfl sizeS ?_; (case hz => exact K13.out))
        | (refine wpList_store_agg rfl 93 _ _ rfl w.heap.size (svals false false 0 none 0 0 none 0 0) (svals (!S.opn) true (S.step now id x).due A1 n1 c1 M1 m1 d1) rfl rfl ?hz rfl sizeS (onesS _ _ _ _ _ _ _ _ _) ?_; (case hz => exact k8x.out); intro w14 k14 f14 _; have K14 := Lib.hid k14; have G14 := Lib.hid f14; clear k14 f14))
      refine bodyPost_ret (v := stepV (!S.opn) true (S.step now id x).due A1 n1 c1 M1 m1 d1) (results_agg Try.results46 rfl (loadS K14.out rfl)) rfl ?_
      have C12 := C11.out.aside G12.out NE.out k9'.out
      have C13 := C12.aside G13.out NE.out K12.out
      have C14 := C13.aside G14.out NE'.out k8x.out
      have B14 := ((B11.out.aside G12.out k9'.out (noneS _ _ _ _ _ _ _ _ _)).aside G13.out K12.out (noneS _ _ _ _ _ _ _ _ _)).aside G14.out k8x.out (noneS _ _ _ _ _ _ _ _ _)
      have F14 := ((F11.out.trans G12.out (fun j hj e => by omega)).trans G13.out (fun j hj e => by omega)).trans G14.out (fun j hj e => by omega)
      have e1 : S.next now id x = S.shut := by unfold CO.next; rw [EF.out]; rfl
      have e2 : (S.step now id x).zs = S.zs1 x := by simp [CO.step, EF.out]
      have e3 : (S.step now id x).ms = S.ms1 id x := by simp [CO.step, EF.out]
      rw [EF.out, e1, e2, e3]
      exact ⟨_, _, _, _, _, _, rfl, ⟨_, _, _, _, _, _, C14, Fresh.none _, Fresh.none _⟩, B14, ⟨FA.out, FM.out⟩, F14⟩
    · have ef : S.full1 x = false := by unfold CO.full1; rw [NL.out]; exact decide_eq_false hf
      have EF := Lib.hid ef
      clear ef
      go_wp2_with (first
        | (refine wpList_load_agg rfl 93 _ rfl (w.heap.size + 1) rfl (svals (!S.opn) false (S.step now id x).due none 0 0 none 0 0) ?hz _ HU.out rfl sizeS ?_; (case hz => exact K9v.out))
        | (refine wpList_store_agg rfl 93 _ _ rfl w.heap.size (svals false false 0 none 0 0 none 0 0) (svals (!S.opn) false (S.step now id x).due none 0 0 none 0 0) rfl rfl ?hz rfl sizeS (onesS _ _ _ _ _ _ _ _ _) ?_; (case hz => exact K8v.out); intro w14 k14 f14 _; have K14 := Lib.hid k14; have G14 := Lib.hid f14; clear k14 f14))
      refine bodyPost_ret (v := stepV (!S.opn) false (S.step now id x).due none 0 0 none 0 0) (results_agg Try.results46 rfl (loadS K14.out rfl)) rfl ?_
      have C14 := C10.out.aside G14.out NE'.out K8v.out
      have F14 := F10.out.trans G14.out (fun j hj e => by omega)
      have e1 : S.next now id x = S.more now id x := by unfold CO.next; rw [EF.out]; rfl
      have e2 : (S.step now id x).zs = [] := by simp [CO.step, EF.out]
      have e3 : (S.step now id x).ms = [] := by simp [CO.step, EF.out]
      rw [EF.out, e1, e2, e3]
      exact ⟨_, _, _, _, _, _, rfl, ⟨_, _, _, _, _, _, C14, FA.out, FM.out⟩, Bat.nil _ _ _, ⟨Fresh.none _, Fresh.none _⟩, F14⟩

theorem add_colF (b : Nat) (S : CO) (now id x : Int) (w : World) (h : Col w b S) (hid : wf64 id) (hn : S.zs.length ≤ 1000) (hm : S.ms.length ≤ 1000) (hw0 : 0 ≤ S.win) (hw1 : S.win ≤ 18446744073709551615) (ht0 : 0 ≤ now) (ht1 : now ≤ 18446744073709551615) :
    Calls Try.prog 46 #[.pointer (some ⟨b, 0, none⟩), .int .u64 now, .int .i64 id, .int .i64 x] w fun r w' => ∃ A' n' c' M' m' d', r = .returned (stepV (!S.opn) (S.full1 x) (S.step now id x).due A' n' c' M' m' d') ∧ ColF w' b (S.next now id x) w.heap.size ∧ Bat w' A' n' c' M' m' d' (S.step now id x).zs (S.step now id x).ms ∧ (Fresh w.heap.size A' ∧ Fresh w.heap.size M') ∧ Frm (· = b) w w' := by
  obtain ⟨A, n, c, M, m, d, h⟩ := h
  exact add_at b S A n c M m d now id x w h hid (by rw [← h.bat.alen]; exact hn) (by rw [← h.bat.mlen]; exact hm) hw0 hw1 ht0 ht1
theorem add_col (b : Nat) (S : CO) (now id x : Int) (w : World) (h : Col w b S) (hid : wf64 id) (hn : S.zs.length ≤ 1000) (hm : S.ms.length ≤ 1000) (hw0 : 0 ≤ S.win) (hw1 : S.win ≤ 18446744073709551615) (ht0 : 0 ≤ now) (ht1 : now ≤ 18446744073709551615) :
    Calls Try.prog 46 #[.pointer (some ⟨b, 0, none⟩), .int .u64 now, .int .i64 id, .int .i64 x] w fun r w' => ∃ A' n' c' M' m' d', r = .returned (stepV (!S.opn) (S.full1 x) (S.step now id x).due A' n' c' M' m' d') ∧ Col w' b (S.next now id x) ∧ Bat w' A' n' c' M' m' d' (S.step now id x).zs (S.step now id x).ms ∧ (Fresh (b + 1) A' ∧ Fresh (b + 1) M') ∧ Frm (· = b) w w' := by
  have hb : b + 1 ≤ w.heap.size := by obtain ⟨_, _, _, _, _, _, h⟩ := h; exact h.lt
  refine (add_colF b S now id x w h hid hn hm hw0 hw1 ht0 ht1).mono ?_
  rintro r w' ⟨A, n, c, M, m, d, rfl, hc, hbt, ⟨h1, h2⟩, hf⟩
  exact ⟨A, n, c, M, m, d, rfl, hc.col, hbt, ⟨h1.mono hb, h2.mono hb⟩, hf⟩
set_option maxRecDepth 100000 in
set_option maxHeartbeats 1000000 in
theorem add_nobody (now id x : Int) (w : World) :
    Calls Try.prog 46 #[.pointer none, .int .u64 now, .int .i64 id, .int .i64 x] w fun r w' => r = .returned (stepV false false 0 none 0 0 none 0 0) ∧ Below w.heap.size w w' := by
  have K0 : Hid ((w.alloc (.cells #[.bool false, .bool false, .int .u64 0, .slice none 0 0, .slice none 0 0] 93)).heap[w.heap.size]? = some (sobj false false 0 none 0 0 none 0 0)) := Lib.hid (heap_alloc_at w _)
  have LW := Lib.hid (below_alloc w (.cells #[.bool false, .bool false, .int .u64 0, .slice none 0 0, .slice none 0 0] 93))
  go_enter Try.func46, Try.ntmps46
  go_wp2_with (first
    | (refine wpList_store_agg rfl 93 _ _ rfl w.heap.size (svals false false 0 none 0 0 none 0 0) (svals false false 0 none 0 0 none 0 0) rfl rfl ?hz rfl sizeS (onesS _ _ _ _ _ _ _ _ _) ?_; (case hz => exact K0.out); intro w5 k5 f5 _;
       have K5 := Lib.hid k5; have F5 := Lib.hid f5; clear k5 f5))
  refine bodyPost_ret (v := stepV false false 0 none 0 0 none 0 0) (results_agg Try.results46 rfl (loadS K5.out rfl)) rfl ?_
  exact ⟨rfl, LW.out.trans (F5.out.below LW.out.size (fun j hj e => by omega))⟩
end Go.Proofs.Ytpfmjocpgnoepaa
