/- Contracts of package latch: Emit. -/
import Derived.Test.YtgbhkfefdeahdaaLatDo
namespace Go.Proofs.Ytgbhkfefdeahdaa
set_option linter.unusedVariables false
open Go.ChangeShapes Go.WideShapes Go.ChangeAt Go.RowKit

set_option maxRecDepth 100000 in
set_option maxHeartbeats 1000000 in
theorem emit_nil (x : Ot) (w : World) : Calls Try.prog 11 #[.pointer none, .agg (aggV x.vals)] w fun r w' => r = .returned (.bool false) ∧ Below w.heap.size w w' := by
  obtain ⟨g, hg⟩ : ∃ g, w.heap.size = g := ⟨_, rfl⟩
  go_enter Try.func11, Try.ntmps11
  go_wp2_with (first
    | (refine wpList_box_agg rfl 29 _ rfl g hg x.vals rfl ?_; intro w1 h1 l1 t1; have L1 : Hid (Below w.heap.size w w1) := Lib.hid (by rw [hg]; exact l1); clear h1 l1 t1))
  go_ret
  exact ⟨rfl, by first | exact L1.out | (rw [← hg]; exact L1.out)⟩

set_option maxRecDepth 100000 in
set_option maxHeartbeats 1000000 in
theorem emit_bad (b : Nat) (x : Ot) (w : World) (hm : x.may = false) : Calls Try.prog 11 #[.pointer (some ⟨b, 0, none⟩), .agg (aggV x.vals)] w fun r w' => r = .returned (.bool false) ∧ Below w.heap.size w w' := by
  obtain ⟨g, hg⟩ : ∃ g, w.heap.size = g := ⟨_, rfl⟩
  obtain ⟨fs, hu⟩ := undO
  have HU := Lib.hid hu
  have hmy := may_any x
  rw [hm] at hmy
  have HM := Lib.hid hmy
  clear hu hmy hm
  go_enter Try.func11, Try.ntmps11
  go_wp2_with (first
    | (refine wpList_box_agg rfl 29 _ rfl g hg x.vals rfl ?_; intro w1 h1 l1 t1; have H1 := Lib.hid h1; have L1 : Hid (Below w.heap.size w w1) := Lib.hid (by rw [hg]; exact l1); clear h1 l1 t1)
    | (refine wpList_load_aggG rfl 29 _ rfl g rfl x.vals H1.out _ HU.out rfl (sizeO _) ?_)
    | (go_at_call 15; refine (HM.out w1).mono ?_; rintro r w2 ⟨rfl, b2⟩; have L2 := Lib.hid (L1.out.trans (b2.mono L1.out.size)); clear b2))
  go_ret
  exact ⟨rfl, by first | exact L2.out | (rw [← hg]; exact L2.out)⟩

set_option maxRecDepth 100000 in
set_option maxHeartbeats 1000000 in
theorem emit_there (base b m : Nat) (v : Value) (L : List Ot) (x : Ot) (w : World) (h : Lat w base b m v L) (hx : x.Fits) (hm : x.may = true) (hh : hasL L x.id = true) :
    Calls Try.prog 11 #[.pointer (some ⟨b, 0, none⟩), .agg (aggV x.vals)] w fun r w' => r = .returned (.bool false) ∧ Below w.heap.size w w' := by
  obtain ⟨g, hg⟩ : ∃ g, w.heap.size = g := ⟨_, rfl⟩
  obtain ⟨fs, hu⟩ := undO
  have HU := Lib.hid hu
  have hmy := may_any x
  rw [hm] at hmy
  have HM := Lib.hid hmy
  have HL := Lib.hid h
  obtain ⟨i, hp, _⟩ := place_some hh
  have HP := Lib.hid hp
  have HX := Lib.hid hx.id
  clear hu hmy hm h hp hx hh
  go_enter Try.func11, Try.ntmps11
  go_wp2_with (first
    | (refine wpList_box_agg rfl 29 _ rfl g hg x.vals rfl ?_; intro w1 h1 l1 t1; have H1 := Lib.hid h1; have L1 : Hid (Below w.heap.size w w1) := Lib.hid (by rw [hg]; exact l1); clear h1 l1 t1)
    | (refine wpList_load_aggG rfl 29 _ rfl g rfl x.vals H1.out _ HU.out rfl (sizeO _) ?_)
    | (go_at_call 15; refine (HM.out w1).mono ?_; rintro r w2 ⟨rfl, b2⟩; have L2 := Lib.hid (L1.out.trans (b2.mono L1.out.size));
       obtain ⟨d0, _, _, _, _⟩ := cellsO (kb_below H1.out b2);
       have h2 := HL.out.below L2.out;
       obtain ⟨c0, c1⟩ := h2.cells;
       have hlk : ∀ n, (Instr.lookup 43 (.map (some m)) (.int .i64 x.id) true).run Try.prog (w2.drewN n) = .ok (.tuple #[.int .i64 i, .bool true]) (w2.drewN n) := (fun n => by
         have := (h2.mp.keep (w' := w2.drewN n) rfl).look HX.out
         rw [HP.out] at this
         exact this);
       clear b2 h2))
  go_quiet (fail)
  go_wp2
  go_ret
  exact ⟨rfl, by first | exact below_drewN L2.out _ | (rw [← hg]; exact below_drewN L2.out _)⟩

set_option maxRecDepth 100000 in
set_option maxHeartbeats 2000000 in
theorem emit_new (base b m : Nat) (v : Value) (L : List Ot) (x : Ot) (w : World) (h : Lat w base b m v L) (hx : x.Fits) (hm : x.may = true) (hh : hasL L x.id = false) (hl : L.length ≤ 1000) (hbase : base ≤ w.heap.size) :
    Calls Try.prog 11 #[.pointer (some ⟨b, 0, none⟩), .agg (aggV x.vals)] w fun r w' => r = .returned (.bool true) ∧ ∃ v', Lat w' base b m v' (L ++ [x]) ∧ Frm (LatF b m v) w w' ∧ (v'.ownBlock = v.ownBlock ∨ ∃ j, v'.ownBlock = some j ∧ w.heap.size ≤ j) := by
  obtain ⟨g, hg⟩ : ∃ g, w.heap.size = g := ⟨_, rfl⟩
  obtain ⟨fs, hu⟩ := undO
  have HU := Lib.hid hu
  have hmy := may_any x
  rw [hm] at hmy
  have HM := Lib.hid hmy
  have HL := Lib.hid h
  have hp := place_none hh
  have HP := Lib.hid hp
  have HX := Lib.hid hx
  have HH := Lib.hid hh
  have HY := Lib.hid hm
  obtain ⟨A, n, c, hv, hrow, hn, hnc, hcm⟩ := h.row.row'
  subst hv
  clear hu hmy hm h hp hx hh hrow hnc hcm
  go_enter Try.func11, Try.ntmps11
  go_wp2_with (first
    | (refine wpList_box_agg rfl 29 _ rfl g hg x.vals rfl ?_; intro w1 h1 l1 t1; have H1 := Lib.hid h1; have L1 : Hid (Below w.heap.size w w1) := Lib.hid (by rw [hg]; exact l1); clear h1 l1 t1)
    | (refine wpList_load_aggG rfl 29 _ rfl g rfl x.vals H1.out _ HU.out rfl (sizeO _) ?_)
    | (go_at_call 15; refine (HM.out w1).mono ?_; rintro r w2 ⟨rfl, b2⟩; have L2 := Lib.hid (L1.out.trans (b2.mono L1.out.size));
       have D2 := Lib.hid (kb_below H1.out b2);
       obtain ⟨d0, _, _, _, _⟩ := cellsO D2.out;
       have h2 := HL.out.below L2.out;
       obtain ⟨c0, c1⟩ := h2.cells;
       have hlk : ∀ n, (Instr.lookup 43 (.map (some m)) (.int .i64 x.id) true).run Try.prog (w2.drewN n) = .ok (.tuple #[.int .i64 0, .bool false]) (w2.drewN n) := (fun n => by
         have := (h2.mp.keep (w' := w2.drewN n) rfl).look HX.out.id
         rw [HP.out] at this
         exact this);
       clear b2 h2))
  go_quiet (fail)
  rename_i nq
  generalize hwq : w2.drewN nq = wq
  have ha : Ali w2 wq := by rw [← hwq]; exact drewN_ali _ _
  have LQ := Lib.hid (below_ali L2.out ha)
  have hq := HL.out.below LQ.out
  have DQ := Lib.hid (kb_below D2.out (ali_below ha))
  clear c0 c1 d0 hlk hwq ha L1 L2 D2 H1
  obtain ⟨c0, c1⟩ := hq.cells
  obtain ⟨d0, _, _, _, _⟩ := cellsO DQ.out
  obtain ⟨w4, hst, hm4, ht4⟩ := MapN.store (w := wq.drew) (i := n) (hq.mp.keep rfl) HX.out.id (by have := hn.out; omega) (by unfold maxLen; omega)
  have hf4 : Frm (· = m) wq w4 := (Frm.of_ali (F := (· = m)) (drew_ali wq)).trans (Frm.of_grown (F := (· = m)) ht4.grown rfl) (fun _ _ h => h)
  have HQ := Lib.hid hq
  have M4 := Lib.hid hm4
  have F4 := Lib.hid hf4
  clear hq hm4 ht4 hf4
  go_wp2
  refine region_tail 11 (by kernel_rfl) (by kernel_rfl) ?_
  simp only [List.take_succ_cons, List.take_zero, List.drop_succ_cons, List.drop_zero]
  repeat still_step
  refine wpStill_nil ?_
  have q4 : ∀ {j : Nat} {cs : Array Value} {t : TypeId} {f : Nat × Nat}, wq.heap[j]? = some (.cells cs t f) → w4.heap[j]? = some (.cells cs t f) := fun {j cs t f} hj => by
    rw [F4.out.block j (heap_lt hj) (fun e => ?_)]
    · exact hj
    · obtain ⟨es, ck, ho⟩ := HQ.out.mp.obj
      rw [show j = m from e, ho] at hj
      cases hj
  have b4 := q4 HQ.out.blk
  have g4 := q4 DQ.out
  have r4 : OutR w4 base (.slice A n c) L := HQ.out.row.apart F4.out (fun j hj e => by
    obtain ⟨cs, ho⟩ := HQ.out.row.block hj
    obtain ⟨es, ck, ho'⟩ := HQ.out.mp.obj
    rw [show j = m from e, ho'] at ho
    cases ho)
  have B4 := Lib.hid b4
  have R4 := Lib.hid r4
  clear c0 c1 d0 q4 b4 r4
  have c0 : w4.cell? ⟨b, 0, none⟩ = some (.slice A n c) := by rw [cell_of B4.out]; rfl
  obtain ⟨d0, d1, d2, d3, d4⟩ := cellsO g4
  have S4 : Hid (w.heap.size ≤ w4.heap.size) := Lib.hid (Nat.le_trans LQ.out.size F4.out.size)
  have own1 : OutR (w4.alloc (.cells #[.int .i64 x.id, .int .i64 x.kind, .int .i64 x.cause, .int .i64 x.val, .int .u64 x.tm] 29)).drew base (.slice A n c) L := (R4.out.alloc _).ali (drew_ali _)
  have src1 : RowR orec (w4.alloc (.cells #[.int .i64 x.id, .int .i64 x.kind, .int .i64 x.cause, .int .i64 x.val, .int .u64 x.tm] 29)).drew (some ⟨w4.heap.size, 0, none⟩) 1 [x] := (RowR.one (R := orec) w4 x 29 rfl).ali (drew_ali _)
  have hs1 : base ≤ (w4.alloc (.cells #[.int .i64 x.id, .int .i64 x.kind, .int .i64 x.cause, .int .i64 x.val, .int .u64 x.tm] 29)).drew.heap.size := by
    have := S4.out
    show base ≤ (w4.alloc _).heap.size
    simp
    omega
  have OWN1 := Lib.hid own1
  have SRC1 := Lib.hid src1
  have HS1 := Lib.hid hs1
  have LT : Hid (L.length + 1 ≤ 1048576) := Lib.hid (by omega)
  obtain ⟨i0, hi0, hz0, hz1, hz2⟩ := out_parts
  have FB : Hid (Frm (LatF b m (.slice A n c)) w w4) := Lib.hid ((Frm.of_below (F := LatF b m (.slice A n c)) LQ.out).trans (F4.out.mono (F' := LatF b m (.slice A n c)) (fun j _ e => .inr (.inl e))) (fun _ _ h => h))
  have nb : ∀ w', (w4.alloc (.cells #[.int .i64 x.id, .int .i64 x.kind, .int .i64 x.cause, .int .i64 x.val, .int .u64 x.tm] 29)).drew.grownBy w' (Value.slice A n c).ownBlock → w'.heap[b]? = some (lobj (.slice A n c) m) := fun w' gr => by
    have hlt := heap_lt B4.out
    refine (gr.block b ?_ (fun e => ?_)).trans ((heap_alloc_lt hlt).trans B4.out)
    · show b < (w4.alloc _).heap.size
      simp
      omega
    · obtain ⟨cs, ho⟩ := R4.out.block e.symm
      rw [B4.out] at ho
      cases ho
  have NB := Lib.hid nb
  have nm : m ≠ b ∧ some m ≠ (Value.slice A n c).ownBlock := by
    obtain ⟨es, ck, ho⟩ := HQ.out.mp.obj
    constructor
    · rintro rfl
      rw [HQ.out.blk] at ho
      cases ho
    · intro e
      obtain ⟨cs, ho'⟩ := HQ.out.row.block e.symm
      rw [ho'] at ho
      cases ho
  have NM := Lib.hid nm
  have c0' : (w4.alloc (.cells #[.int .i64 x.id, .int .i64 x.kind, .int .i64 x.cause, .int .i64 x.val, .int .u64 x.tm] 29)).cell? ⟨b, 0, none⟩ = some (.slice A n c) := cell_alloc c0 _
  clear own1 src1 hs1 g4 LQ DQ F4 nb nm
  go_wp2
  go_region_law (first
    | (refine appR_step (P := Try.prog) (R := orec) rfl (.tmp 40) (.tmp 42) rfl out_slice hi0 hz0 hz1 hz2 rfl (by decide) (base := base) rfl rfl OWN1.out SRC1.out LT.out HS1.out ?_
       intro v' w' own' gr' ob'
       obtain ⟨A', n', c', hv', _, _, _, _⟩ := own'.row'
       subst hv'
       have b5 := NB.out w' gr'
       have p5 : w'.cell? ⟨b, 0, none⟩ = some (.slice A n c) := (by rw [cell_of b5]; rfl)
       have f5 := frozen_of b5 0
       have B5 := Lib.hid b5
       have OWN := Lib.hid own'
       have GR := Lib.hid gr'
       have OB := Lib.hid ob'
       clear own' gr' ob' b5))
  all_goals go_wp2
  all_goals go_ret
  all_goals (
    have hm := M4.out
    have hnb : ∀ j, j = b → ∀ cs, w'.heap[j]? ≠ some (.cells cs 29 (0, 0)) := fun j e cs hc => by
      rw [e, B5.out] at hc
      cases hc
    have f6 : Frm (· = b) w' (w'.setCell ⟨b, 0, none⟩ (.slice A' n' c')) := (Frm.refl (· = b) w').set (F := (· = b)) (p := ⟨b, 0, none⟩) rfl _
    have f5 : Frm (LatF b m (.slice A n c)) (w4.alloc (.cells #[.int .i64 x.id, .int .i64 x.kind, .int .i64 x.cause, .int .i64 x.val, .int .u64 x.tm] 29)).drew w' := ⟨GR.out.os, GR.out.tape, GR.out.output, GR.out.size, fun j hj hn => GR.out.block j hj (fun e => hn (.inr (.inr e.symm)))⟩
    have hfw : Frm (LatF b m (.slice A n c)) w (w'.setCell ⟨b, 0, none⟩ (.slice A' n' c')) :=
      (((FB.out.alloc _).ali (drew_ali _)).trans f5 (fun _ _ h => h)).trans (f6.mono (F' := LatF b m (.slice A n c)) (fun j _ e => .inl e)) (fun _ _ h => h)
    refine ⟨rfl, _, ⟨?_, OWN.out.frm f6 hnb, ?_, ?_, ?_, ?_, HL.out.lb, HL.out.lm⟩, hfw, ?_⟩
    · rw [heap_set_same B5.out]; rfl
    · have hk : (w'.setCell ⟨b, 0, none⟩ (.slice A' n' c')).heap[m]? = w4.heap[m]? := by
        rw [heap_set_other (NM.out.1)]
        refine (GR.out.block m ?_ NM.out.2).trans (heap_alloc_lt hm.lt)
        show m < (w4.alloc _).heap.size
        have := hm.lt
        simp
        omega
      have := hm.keep hk
      rw [List.length_append]
      refine cast ?_ this
      congr 1
      funext y
      rw [place_snoc HH.out, hn.out]
    · have := unlike_emit HL.out.un x
      rwa [emit_yes (adds_iff.2 ⟨HY.out, HH.out⟩)] at this
    · intro y hy
      rcases List.mem_append.1 hy with hy | hy
      · exact HL.out.fits y hy
      · rw [List.mem_singleton.1 hy]; exact HX.out
    · intro y hy
      rcases List.mem_append.1 hy with hy | hy
      · exact HL.out.may y hy
      · rw [List.mem_singleton.1 hy]; exact HY.out
    · rcases OB.out with e | e
      · exact .inl e
      · refine .inr ⟨_, e, ?_⟩
        have h1 := S4.out
        have h2 : (w4.alloc (.cells #[.int .i64 x.id, .int .i64 x.kind, .int .i64 x.cause, .int .i64 x.val, .int .u64 x.tm] 29)).drew.heap.size = w4.heap.size + 1 := by
          show (w4.alloc _).heap.size = _
          simp
        first | omega | (rw [← hg] at *; omega))

/-- Whatever is emitted. -/
theorem emit_lat (base b m : Nat) (v : Value) (L : List Ot) (x : Ot) (w : World) (h : Lat w base b m v L) (hx : x.Fits) (hl : L.length ≤ 1000) (hbase : base ≤ w.heap.size) :
    Calls Try.prog 11 #[.pointer (some ⟨b, 0, none⟩), .agg (aggV x.vals)] w fun r w' => r = .returned (.bool (adds L x)) ∧ ∃ v', Lat w' base b m v' (emit L x) ∧ Frm (LatF b m v) w w' ∧ (v'.ownBlock = v.ownBlock ∨ ∃ j, v'.ownBlock = some j ∧ w.heap.size ≤ j) := by
  cases hm : x.may
  · have ha : adds L x = false := by simp [adds, hm]
    rw [ha, emit_no ha]
    refine (emit_bad b x w hm).mono ?_
    rintro r w' ⟨rfl, hb⟩
    exact ⟨rfl, v, h.below hb, Frm.of_below hb, .inl rfl⟩
  · cases hh : hasL L x.id
    · have ha : adds L x = true := by simp [adds, hm, hh]
      rw [ha, emit_yes ha]
      exact emit_new base b m v L x w h hx hm hh hl hbase
    · have ha : adds L x = false := by simp [adds, hh]
      rw [ha, emit_no ha]
      refine (emit_there base b m v L x w h hx hm hh).mono ?_
      rintro r w' ⟨rfl, hb⟩
      exact ⟨rfl, v, h.below hb, Frm.of_below hb, .inl rfl⟩
end Go.Proofs.Ytgbhkfefdeahdaa
