/- Contracts of package cache: Ask of a key that wasn't told; Ask, whatever it is. -/
import Derived.Test.YtlphahkmibhidaaCacNew
namespace Go.Proofs.Ytlphahkmibhidaa
set_option linter.unusedVariables false
open Go.ChangeShapes Go.WideShapes Go.ChangeAt Go.RowKit Go.Deep

set_option maxRecDepth 100000 in
set_option maxHeartbeats 4000000 in
theorem ask_join (F : Nat → Prop) (b : Nat) (S : CA) (k : K3) (id : Int) (w : World) (h : Cch w F b S) (hF : ∀ j, w.heap.size ≤ j → F j) (hk : wf3 k) (hid : wf64 id) (h0 : k.a ≠ 0) (e : CE) (he : S.at_ k = some e) (hd : e.done = false) (hs : S.size ≤ 1000) :
    Calls Try.prog 15 #[.pointer (some ⟨b, 0, none⟩), .agg (aggV (v3 k)), .int .i64 id] w fun r w' => r = .returned (.tuple #[.int .i64 2, .agg (aggV (v3 zero3))]) ∧ Cch w' F b ⟨S.E, S.J ++ [(e.id, id)], S.q + 1⟩ ∧ Frm (Foot w F) w w' := by
  obtain ⟨g, hg⟩ : ∃ g, w.heap.size = g := ⟨_, rfl⟩
  obtain ⟨km, jm, L, n, jf, h⟩ := h
  obtain ⟨p, hp, hpe, hpt⟩ := (ptrs_at h k).2 e he
  have hb0 : (k.a == 0) = false := by simp [h0]
  have hlead : wf64 e.id := (h.ok.fitE e (CA.at_some he).1).2.1
  have hjl : (S.joined e.id).length ≤ 1000 := by have := S.joined_len e.id; have := h.ok.le; unfold CA.size at hs; omega
  have hnj : n ≤ 1000 := by have := h.nj; unfold CA.size at hs; omega
  obtain ⟨vj, hvj⟩ : ∃ vj, (jf e.id).getD (.slice none 0 0) = vj := ⟨_, rfl⟩
  have hown : Ints w 0 vj (S.joined e.id) := by
    cases hj : jf e.id with
    | none => rw [hj] at hvj; simp at hvj; rw [h.rown e.id hlead hj, ← hvj]; exact Ints.nil _ _
    | some u => rw [hj] at hvj; simp at hvj; rw [← hvj]; exact (h.rows e.id u hlead hj).1
  obtain ⟨A, m, c, hA, _, _, _, _⟩ := own_row' hown
  subst hA
  have HX := Lib.hid h
  have HP := Lib.hid hp
  have HPE := Lib.hid hpe
  have HPT := Lib.hid hpt
  have HK := Lib.hid hk
  have HI := Lib.hid hid
  have HD := Lib.hid hd
  have HF := Lib.hid hF
  have HL := Lib.hid hlead
  have HV := Lib.hid hvj
  have HO := Lib.hid hown
  have HJL : Hid ((S.joined e.id).length + 1 ≤ 1048576) := Lib.hid (by omega)
  clear h0 h hp hpe hpt hk hid hd he hF hs hlead hvj hown hjl
  go_enter Try.func15, Try.ntmps15
  go_wp2_with (first
    | (refine wpList_box_agg rfl 47 _ rfl g hg (v3 k) rfl ?_; intro w1 h1 l1 t1)
    | (refine wpList_alloc_agg rfl 44 rfl (g + 1) t1 (v3 zero3) (allocT _) ?_; intro w2 h2 l2 t2;
       have B2 : Hid (Below w.heap.size w w2) := Lib.hid (by rw [hg]; exact l1.trans (l2.mono (by omega)));
       have H2 := Lib.hid h2;
       have hx2 := HX.out.keep (fun j o ho _ _ => kb_below ho B2.out);
       obtain ⟨d0, d1, d2⟩ := cells3 ((l2.block g (by omega)).trans h1);
       obtain ⟨c0, c1⟩ := hx2.cells;
       have hlk : ∀ n, (Instr.lookup 58 (.map (some km)) (.agg #[.int .i64 k.a, .int .i64 k.b, .int .i64 k.c]) false).run Try.prog (w2.drewN n) = .ok (.pointer (some ⟨p.2, 0, none⟩)) (w2.drewN n) := (fun n => by
         have := hx2.keys.look (w' := w2.drewN n) (x := k) HK.out key_map ent_zero rfl
         rw [HPT.out] at this
         exact this);
       clear h1 h2 l1 l2 t1 t2 hx2))
  go_quiet (fail)
  rename_i nq
  generalize hwq : w2.drewN nq = wq
  have ha : Ali w2 wq := by rw [← hwq]; exact drewN_ali _ _
  have BQ := Lib.hid (below_ali B2.out ha)
  have HQ := Lib.hid (kb_below H2.out (ali_below ha))
  have XQ := Lib.hid (HX.out.keep (fun j o ho _ _ => kb_below ho BQ.out))
  have HFQ : Hid (∀ j, wq.heap.size ≤ j → F j) := Lib.hid (fun j hj => HF.out j (by have := BQ.out.size; omega))
  have OQ := Lib.hid (HO.out.below BQ.out)
  have heq := XQ.out.ents p HP.out
  rw [HPE.out] at heq
  have EQ := Lib.hid heq
  obtain ⟨e0, e1, _, _, _⟩ := cellsE heq
  rw [HD.out] at e1
  clear c0 c1 d0 d1 d2 hlk hwq ha heq B2 H2
  have hvt : ∀ j, (Value.slice A m c).ownBlock = some j → ∃ cs, wq.heap[j]? = some (.cells cs 3 (0, 0)) := fun j hj => OQ.out.block hj
  have HS : Hid (∀ wx, Frm (fun j => j = jm ∨ (Value.slice A m c).ownBlock = some j) wq wx → wx.cell? ⟨b, 1, none⟩ = some (.map (some jm)) ∧ wx.cell? ⟨p.2, 0, none⟩ = some (.int .i64 e.id)) := Lib.hid (fun wx hf => by
    have kc : ∀ {j : Nat} {cs : Array Value} {ty : TypeId} {z : Nat × Nat}, wq.heap[j]? = some (.cells cs ty z) → ty ≠ 3 → wx.heap[j]? = some (.cells cs ty z) := fun {j cs ty z} hj hty => by
      rw [hf.block j (heap_lt hj) (fun e => ?_)]
      · exact hj
      · rcases e with e | e
        · exact XQ.out.join.ne_cells hj e
        · obtain ⟨cs', hc'⟩ := hvt j e
          rw [hj] at hc'
          injection hc' with hc'
          injection hc' with _ hc'
          exact hty hc'
    exact ⟨vobj_cell (vs := [.map (some km), .map (some jm)]) (kc XQ.out.blk (by decide)) rfl, vobj_cell (vs := e.vals) (kc EQ.out (by decide)) rfl⟩)
  have hl1 : (Instr.lookup 59 (.map (some jm)) (.int .i64 e.id) false).run Try.prog wq.drew = .ok (.slice A m c) wq.drew := by
    have := XQ.out.join.look (w' := wq.drew) (x := e.id) HL.out join_map row_zero rfl
    rw [HV.out] at this
    exact this
  have hl2 : (Instr.lookup 59 (.map (some jm)) (.int .i64 e.id) false).run Try.prog (wq.alloc (.cells #[.int .i64 id] 3)).drew = .ok (.slice A m c) (wq.alloc (.cells #[.int .i64 id] 3)).drew := by
    have := XQ.out.join.look (w' := (wq.alloc (.cells #[.int .i64 id] 3)).drew) (x := e.id) HL.out join_map row_zero (heap_alloc_lt XQ.out.join.lt)
    rw [HV.out] at this
    exact this
  have OWN : Hid (Ints (wq.alloc (.cells #[.int .i64 id] 3)).drew 0 (.slice A m c) (S.joined e.id)) := Lib.hid ((OQ.out.below (below_alloc _ _)).ali (drew_ali _))
  have SRC : Hid (Row .i64 (wq.alloc (.cells #[.int .i64 id] 3)).drew (some ⟨wq.heap.size, 0, none⟩) 1 [id]) := Lib.hid ((row_one wq id HI.out).ali (drew_ali _))
  have A0 : Hid (Frm (fun j => j = jm ∨ (Value.slice A m c).ownBlock = some j) wq wq.drew) := Lib.hid (Frm.of_ali (drew_ali wq))
  have A1 : Hid (Frm (fun j => j = jm ∨ (Value.slice A m c).ownBlock = some j) wq (wq.alloc (.cells #[.int .i64 id] 3)).drew) := Lib.hid ((Frm.of_below (below_alloc _ _)).ali (drew_ali _))
  have BW : Hid (Below wq.heap.size wq (wq.alloc (.cells #[.int .i64 id] 3)).drew) := Lib.hid (below_ali (below_alloc _ _) (drew_ali _))
  obtain ⟨i0, hi0, hz0, hz1, hz2⟩ := info_parts int_info
  clear hvt
  go_wp2
  go_region_held3 (fun v => v.cell? ⟨b, 1, none⟩ = some (.map (some jm)) ∧ v.cell? ⟨p.2, 0, none⟩ = some (.int .i64 e.id))
    (first | exact HS.out _ A0.out | exact HS.out _ A1.out | (have h4 := A4.out; exact HS.out _ h4) | exact HS.out _ A3.out)
    (first
     | (refine app_step (P := Try.prog) (by rfl) (.tmp 58) (.tmp 60) (by rfl) int_slice hi0 hz0 hz1 hz2 rfl (by decide) (base := 0) (by rfl) (by rfl) OWN.out SRC.out rfl HJL.out (Nat.zero_le _) ?_
        intro v' w' own' gr' ob'
        have A3 : Hid (Frm (fun j => j = jm ∨ (Value.slice A m c).ownBlock = some j) wq w') := Lib.hid (A1.out.trans (F' := fun j => (Value.slice A m c).ownBlock = some j) ⟨gr'.os, gr'.tape, gr'.output, gr'.size, fun j hj hn => gr'.block j hj (fun e => hn e.symm)⟩ (fun j hj e => .inr e))
        have hj3 : w'.heap[jm]? = wq.heap[jm]? := ((gr'.block jm (heap_lt (kb_below XQ.out.join.obj.choose_spec.choose_spec BW.out)) (fun e => by obtain ⟨cs, hcs⟩ := OQ.out.block e.symm; exact XQ.out.join.ne_cells hcs rfl)).trans (BW.out.block jm XQ.out.join.lt))
        obtain ⟨w4, hst, hm4, ht4⟩ := (XQ.out.join.keep hj3).store (x := e.id) HL.out join_map (by unfold maxLen; omega) v'
        have hst' : (Instr.mapUpdate 59 (.map (some jm)) (.int .i64 e.id) v').run Try.prog w' = .ok () w4 := hst
        have A4 : Hid (Frm (fun j => j = jm ∨ (Value.slice A m c).ownBlock = some j) wq w4) := Lib.hid (A3.out.trans (turned_frm ht4) (fun j hj e => .inl e))
        have o4 : Ints w4 0 v' (S.joined e.id ++ [id]) := Ints.apart (w := w') (base := 0) own' (fun g hg => (turned_frm ht4).block g (Ints.lt_ (w := w') (base := 0) own' hg) (fun e' => by
          obtain ⟨cs, hcs⟩ := Ints.block (w := w') (base := 0) own' hg
          exact (XQ.out.join.keep hj3).ne_cells hcs e'))
        have FIN := Lib.hid (XQ.out.joins HL.out HI.out HV.out hm4 o4 A4.out (fun j hj => by
          rcases ob' with e' | e'
          · exact .inl (e'.symm.trans hj)
          · rw [e'] at hj
            injection hj with hj
            exact .inr (by rw [← hj]; exact BW.out.size)) HFQ.out)
        have HT4 : Hid (w4.heap[g + 1]? = some (vobj 44 (v3 zero3))) := Lib.hid (foot_kept FIN.out.2 HQ.out (by decide))
        clear own' gr' ob' hj3 hst hm4 ht4 o4))
  all_goals go_wp2_with (first
    | (refine wpList_build_agg rfl 44 #[] rfl (v3 zero3) (buildT _) ?_)
    | (refine wpList_store_agg rfl 44 _ _ rfl (g + 1) (v3 zero3) (v3 zero3) rfl rfl ?hz rfl (sizeT _) (v3_ones _) ?_; (case hz => exact HT4.out); intro w6 h6 f6 t6))
  all_goals (
    refine bodyPost_ret (v := .tuple #[.int .i64 2, .agg (aggV (v3 zero3))]) (results_num Try.results15 rfl (loadT h6) rfl) rfl ⟨rfl, FIN.out.1.beside HT4.out (by decide) f6, ?_⟩
    have fw := foot_of_below (F := F) (w := w) (by first | exact BQ.out | (rw [hg]; exact BQ.out)) FIN.out.2
    refine fw.trans f6 (fun j hj e => ?_)
    have e' : j = g + 1 := e
    exfalso
    first | omega | (rw [hg] at hj; omega))

/-- Whatever is asked. -/
theorem ask_cch (F : Nat → Prop) (b : Nat) (S : CA) (k : K3) (id : Int) (w : World) (h : Cch w F b S) (hF : ∀ j, w.heap.size ≤ j → F j) (hk : wf3 k) (hid : wf64 id) (hs : S.size ≤ 1000) :
    Calls Try.prog 15 #[.pointer (some ⟨b, 0, none⟩), .agg (aggV (v3 k)), .int .i64 id] w fun r w' => r = .returned (.tuple #[.int .i64 (S.asks k), .agg (aggV (v3 (S.tell k)))]) ∧ Cch w' F b (S.ask k id) ∧ Frm (Foot w F) w w' := by
  rcases S.ways k id with ⟨h0, e1, e2, e3⟩ | ⟨h0, hn, e1, e2, e3⟩ | ⟨h0, x, hx, hd, e1, e2, e3⟩ | ⟨h0, x, hx, hd, e1, e2, e3⟩
  · rw [e1, e2, e3]
    refine (ask_zero b k id w h0).mono ?_
    rintro r w' ⟨rfl, hb⟩
    exact ⟨rfl, h.below hb, Frm.of_below hb⟩
  · rw [e1, e2, e3]
    exact ask_new F b S k id w h hF hk hid h0 hn hs
  · rw [e1, e2, e3]
    refine (ask_know F b S k id w h hk h0 x hx hd).mono ?_
    rintro r w' ⟨rfl, hb⟩
    exact ⟨rfl, h.below hb, Frm.of_below hb⟩
  · rw [e1, e2, e3]
    exact ask_join F b S k id w h hF hk hid h0 x hx hd hs
end Go.Proofs.Ytlphahkmibhidaa
