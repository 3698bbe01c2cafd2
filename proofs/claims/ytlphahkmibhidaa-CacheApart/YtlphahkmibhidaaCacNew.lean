/- Contracts of package cache: Ask of a key that isn't there, and of one that wasn't told; Ask, whatever it is. -/
import Derived.Test.YtlphahkmibhidaaCacAsk
namespace Go.Proofs.Ytlphahkmibhidaa
set_option linter.unusedVariables false
open Go.ChangeShapes Go.WideShapes Go.ChangeAt Go.RowKit

theorem ptrs_snoc {L : List (CE × Nat)} {e : CE} {g : Nat} (h : ptrs L e.k = none) (y : K3) : ptrs (L ++ [(e, g)]) y = if y = e.k then some (.pointer (some ⟨g, 0, none⟩)) else ptrs L y := by
  unfold ptrs at *
  rw [List.find?_append]
  by_cases hc : y = e.k
  · subst hc
    rw [Option.map_eq_none_iff] at h
    rw [h]
    simp
  · have : ¬ e.k = y := fun e' => hc e'.symm
    simp [hc, this]
section
variable {w w' : World} {F : Nat → Prop} {b km jm n : Nat} {L : List (CE × Nat)} {jf : Int → Option Value} {S : CA}
/-- One key more. -/
theorem CX.newk (h : CX w F b km jm L n jf S) {k : K3} {id : Int} {ge : Nat} (hk : wf3 k) (hid : wf64 id) (h0 : k.a ≠ 0) (hn : S.at_ k = none)
    (hm : MapV keyK w' km (if (ptrs L k).isSome then L.length else L.length + 1) (fun y => if y = k then some (.pointer (some ⟨ge, 0, none⟩)) else ptrs L y)) (hf : Frm (· = km) w w') (hge : w.heap.size ≤ ge) (he : w'.heap[ge]? = some (eobj ⟨k, id, false, zero3⟩)) (hF : F ge) :
    Cch w' F b ⟨S.E ++ [⟨k, id, false, zero3⟩], S.J, S.q⟩ ∧ Frm (Foot w F) w w' := by
  have hp := (ptrs_at h k).1 hn
  rw [hp] at hm
  simp only [Option.isSome_none, Bool.false_eq_true, if_false] at hm
  have kc : ∀ {j : Nat} {cs : Array Value} {ty : TypeId} {z : Nat × Nat}, w.heap[j]? = some (.cells cs ty z) → w'.heap[j]? = some (.cells cs ty z) := fun {j cs ty z} hj => by
    rw [hf.block j (heap_lt hj) (h.keys.ne_cells hj)]; exact hj
  have hok := h.ok.ask (k := k) (id := id) hk hid
  rw [show S.ask k id = ⟨S.E ++ [⟨k, id, false, zero3⟩], S.J, S.q⟩ by simp [CA.ask, h0, hn]] at hok
  refine ⟨⟨km, jm, L ++ [(⟨k, id, false, zero3⟩, ge)], n, jf, ⟨kc h.blk, ?_, fun p hp => ?_, ?_, by rw [List.map_append, h.view]; rfl, h.join.keep (hf.block jm h.join.lt (Ne.symm h.ne)), h.nj, fun z v hz hv => ?_, h.rown, h.rapt, h.ne, h.fb, h.fk, h.fj, fun p hp => ?_, h.fr, hok⟩⟩, ?_⟩
  · rw [List.length_append]
    exact hm.congr (fun y _ => (ptrs_snoc (e := ⟨k, id, false, zero3⟩) hp y).symm)
  · rcases List.mem_append.1 hp with hp | hp
    · exact kc (h.ents p hp)
    · rw [List.mem_singleton.1 hp]; exact he
  · refine List.pairwise_append.2 ⟨h.apart, by simp, fun a ha c hc => ?_⟩
    rw [List.mem_singleton.1 hc]
    have := heap_lt (h.ents a ha)
    show a.2 ≠ ge
    omega
  · refine ⟨(h.rows z v hz hv).1.apart (fun g hg => ?_), (h.rows z v hz hv).2⟩
    obtain ⟨cs, hcs⟩ := (h.rows z v hz hv).1.block hg
    rw [kc hcs, hcs]
  · rcases List.mem_append.1 hp with hp | hp
    · exact h.fe p hp
    · rw [List.mem_singleton.1 hp]; exact hF
  · refine hf.mono (fun j hj e => ?_)
    have e' : j = km := e
    subst e'
    exact ⟨h.fk, fun cs t z hc => absurd rfl (h.keys.ne_cells hc)⟩
/-- One more who joined. -/
theorem CX.joins (h : CX w F b km jm L n jf S) {lead id : Int} {v v' : Value} (hl : wf64 lead) (hid : wf64 id) (hv : (jf lead).getD (.slice none 0 0) = v)
    (hm : MapV intK w' jm (if (jf lead).isSome then n else n + 1) (fun y => if y = lead then some v' else jf y)) (own : Ints w' 0 v' (S.joined lead ++ [id])) (hf : Frm (fun j => j = jm ∨ v.ownBlock = some j) w w')
    (hv' : ∀ g, v'.ownBlock = some g → v.ownBlock = some g ∨ w.heap.size ≤ g) (hF : ∀ j, w.heap.size ≤ j → F j) :
    Cch w' F b ⟨S.E, S.J ++ [(lead, id)], S.q + 1⟩ ∧ Frm (Foot w F) w w' := by
  have hown : ∀ g, v.ownBlock = some g → jf lead = some v := fun g hg => by
    cases hj : jf lead with
    | none => rw [hj] at hv; simp at hv; rw [← hv] at hg; cases hg
    | some u => rw [hj] at hv; simp at hv; rw [hv]
  have hvt : ∀ g, v.ownBlock = some g → ∃ cs, w.heap[g]? = some (.cells cs 3 (0, 0)) := fun g hg => (h.rows lead v hl (hown g hg)).1.block hg
  have kc : ∀ {j : Nat} {cs : Array Value} {ty : TypeId} {z : Nat × Nat}, w.heap[j]? = some (.cells cs ty z) → ty ≠ 3 → w'.heap[j]? = some (.cells cs ty z) := fun {j cs ty z} hj hty => by
    rw [hf.block j (heap_lt hj) (fun e => ?_)]
    · exact hj
    · rcases e with e | e
      · exact h.join.ne_cells hj e
      · obtain ⟨cs', hc'⟩ := hvt j e
        rw [hj] at hc'
        injection hc' with hc'
        injection hc' with _ hc'
        exact hty hc'
  refine ⟨⟨km, jm, L, _, _, ⟨kc h.blk (by decide), h.keys.keep (hf.block km h.keys.lt (fun e => ?_)), fun p hp => kc (h.ents p hp) (by decide), h.apart, h.view, hm, ?_, fun z u hz hu => ?_, fun z hz hu => ?_, fun z z' u u' g h1 h2 hne hu hu' hg => ?_, h.ne, h.fb, h.fk, h.fj, h.fe, fun z u g hz hu hg => ?_, ?_⟩⟩, ?_⟩
  · rcases e with e | e
    · exact h.ne e
    · obtain ⟨cs, hcs⟩ := hvt km e
      exact h.keys.ne_cells hcs rfl
  · have := h.nj
    show _ ≤ S.q + 1
    split <;> omega
  · rw [S.joined_more]
    by_cases hc : z = lead
    · subst hc
      simp only [if_true, Option.some.injEq] at hu ⊢
      subst hu
      exact ⟨own, by simp⟩
    · simp only [if_neg hc] at hu ⊢
      refine ⟨(h.rows z u hz hu).1.apart (fun g hg => ?_), (h.rows z u hz hu).2⟩
      obtain ⟨cs, hcs⟩ := (h.rows z u hz hu).1.block hg
      refine hf.block g (heap_lt hcs) (fun e => ?_)
      rcases e with e | e
      · exact h.join.ne_cells hcs e
      · exact h.rapt lead z v u g hl hz (Ne.symm hc) (hown g e) hu e hg
  · rw [S.joined_more]
    by_cases hc : z = lead
    · subst hc
      simp at hu
    · simp only [if_neg hc] at hu ⊢
      exact h.rown z hz hu
  · by_cases hc : z = lead
    · subst hc
      have hc' : ¬ z' = z := fun e => hne e.symm
      simp only [if_true, Option.some.injEq] at hu
      simp only [if_neg hc'] at hu'
      subst hu
      intro e
      rcases hv' g hg with e' | e'
      · exact h.rapt z z' v u' g h1 h2 hne (hown g e') hu' e' e
      · have := (h.rows z' u' h2 hu').1.lt_ e
        omega
    · simp only [if_neg hc] at hu
      by_cases hc' : z' = lead
      · subst hc'
        simp only [if_true, Option.some.injEq] at hu'
        subst hu'
        intro e
        rcases hv' g e with e' | e'
        · exact h.rapt z' z v u g h2 h1 (Ne.symm hne) (hown g e') hu e' hg
        · have := (h.rows z u h1 hu).1.lt_ hg
          omega
      · simp only [if_neg hc'] at hu'
        exact h.rapt z z' u u' g h1 h2 hne hu hu' hg
  · by_cases hc : z = lead
    · subst hc
      simp only [if_true, Option.some.injEq] at hu
      subst hu
      rcases hv' g hg with e' | e'
      · exact h.fr z v g hz (hown g e') e'
      · exact hF g e'
    · simp only [if_neg hc] at hu
      exact h.fr z u g hz hu hg
  · refine ⟨h.ok.keys, h.ok.scope, h.ok.fitE, fun p hp => ?_, by have := h.ok.le; simp; exact this⟩
    rcases List.mem_append.1 hp with hp | hp
    · exact h.ok.fitJ p hp
    · rw [List.mem_singleton.1 hp]; exact ⟨hl, hid⟩
  · refine hf.mono (fun j hj e => ?_)
    rcases e with e | e
    · subst e
      exact ⟨h.fj, fun cs t z hc => absurd rfl (h.join.ne_cells hc)⟩
    · refine ⟨h.fr lead v j hl (hown j e) e, fun cs t z hc => .inr ?_⟩
      obtain ⟨cs', hc'⟩ := hvt j e
      rw [hc] at hc'
      injection hc' with hc'
      injection hc' with _ hc'
end

set_option maxRecDepth 100000 in
set_option maxHeartbeats 2000000 in
theorem ask_new (F : Nat → Prop) (b : Nat) (S : CA) (k : K3) (id : Int) (w : World) (h : Cch w F b S) (hF : ∀ j, w.heap.size ≤ j → F j) (hk : wf3 k) (hid : wf64 id) (h0 : k.a ≠ 0) (hn : S.at_ k = none) (hs : S.size ≤ 1000) :
    Calls Try.prog 15 #[.pointer (some ⟨b, 0, none⟩), .agg (aggV (v3 k)), .int .i64 id] w fun r w' => r = .returned (.tuple #[.int .i64 1, .agg (aggV (v3 zero3))]) ∧ Cch w' F b ⟨S.E ++ [⟨k, id, false, zero3⟩], S.J, S.q⟩ ∧ Frm (Foot w F) w w' := by
  obtain ⟨g, hg⟩ : ∃ g, w.heap.size = g := ⟨_, rfl⟩
  obtain ⟨km, jm, L, n, jf, h⟩ := h
  have hpt := (ptrs_at h k).1 hn
  have hb0 : (k.a == 0) = false := by simp [h0]
  have hll : L.length ≤ 1000 := by have := h.len; unfold CA.size at hs; omega
  have HX := Lib.hid h
  have HPT := Lib.hid hpt
  have HK := Lib.hid hk
  have HI := Lib.hid hid
  have H0 := Lib.hid h0
  have HN := Lib.hid hn
  have HF := Lib.hid hF
  clear h0 h hpt hk hid hn hF hs
  go_enter Try.func15, Try.ntmps15
  go_wp2_with (first
    | (refine wpList_box_agg rfl 47 _ rfl g hg (v3 k) rfl ?_; intro w1 h1 l1 t1)
    | (refine wpList_alloc_agg rfl 44 rfl (g + 1) t1 (v3 zero3) (allocT _) ?_; intro w2 h2 l2 t2;
       have B2 : Hid (Below w.heap.size w w2) := Lib.hid (by rw [hg]; exact l1.trans (l2.mono (by omega)));
       have H2 := Lib.hid h2; have T2 := Lib.hid t2; have K2 := Lib.hid ((l2.block g (by omega)).trans h1);
       have hx2 := HX.out.keep (fun j o ho _ _ => kb_below ho B2.out);
       obtain ⟨d0, d1, d2⟩ := cells3 K2.out;
       obtain ⟨c0, c1⟩ := hx2.cells;
       have hlk : ∀ n, (Instr.lookup 58 (.map (some km)) (.agg #[.int .i64 k.a, .int .i64 k.b, .int .i64 k.c]) false).run Try.prog (w2.drewN n) = .ok (.pointer none) (w2.drewN n) := (fun n => by
         have := hx2.keys.look (w' := w2.drewN n) (x := k) HK.out key_map ent_zero rfl
         rw [HPT.out] at this
         exact this);
       clear h1 h2 l1 l2 t1 t2 hx2))
  go_quiet (fail)
  rename_i nq
  generalize hwq : w2.drewN nq = wq
  have ha : Ali w2 wq := by rw [← hwq]; exact drewN_ali _ _
  have hsq : wq.heap.size = g + 2 := by rw [ha.heap]; exact T2.out
  have BQ := Lib.hid (below_ali B2.out ha)
  have HQ := Lib.hid (kb_below H2.out (ali_below ha))
  have KQ := Lib.hid (kb_below K2.out (ali_below ha))
  have XQ := Lib.hid (HX.out.keep (fun j o ho _ _ => kb_below ho BQ.out))
  have HFQ : Hid (∀ j, wq.heap.size ≤ j → F j) := Lib.hid (fun j hj => HF.out j (by have := BQ.out.size; omega))
  have SQ := Lib.hid hsq
  clear c0 c1 d0 d1 d2 hlk hwq ha hsq B2 H2 K2 T2
  obtain ⟨we, hwe⟩ : ∃ we, (wq.alloc (.cells #[.int .i64 id, .bool false, .int .i64 0, .int .i64 0, .int .i64 0] 70)).drew = we := ⟨_, rfl⟩
  have bwe : Below wq.heap.size wq we := by rw [← hwe]; exact below_ali (below_alloc _ _) (drew_ali _)
  have ewe : we.heap[wq.heap.size]? = some (eobj ⟨k, id, false, zero3⟩) := by rw [← hwe]; exact heap_alloc_at wq _
  have hxe := XQ.out.keep (fun j o ho _ _ => kb_below ho bwe)
  obtain ⟨w5, hst, hm5, ht5⟩ := hxe.keys.store (x := k) HK.out key_map (by unfold maxLen; omega) (.pointer (some ⟨wq.heap.size, 0, none⟩))
  have hst' : (Instr.mapUpdate 58 (.map (some km)) (.agg #[.int .i64 k.a, .int .i64 k.b, .int .i64 k.c]) (.pointer (some ⟨wq.heap.size, 0, none⟩))).run Try.prog (wq.alloc (.cells #[.int .i64 id, .bool false, .int .i64 0, .int .i64 0, .int .i64 0] 70)).drew = .ok () w5 := by rw [hwe]; exact hst
  have f5 : Frm (· = km) wq w5 := (Frm.of_below (F := (· = km)) bwe).trans (turned_frm ht5) (fun _ _ h => h)
  have e5 : w5.heap[wq.heap.size]? = some (eobj ⟨k, id, false, zero3⟩) := by
    rw [(turned_frm ht5).block _ (heap_lt ewe) (fun e => hxe.keys.ne_cells ewe e)]
    exact ewe
  have FIN := Lib.hid (XQ.out.newk HK.out HI.out H0.out HN.out hm5 f5 (Nat.le_refl _) e5 (HFQ.out _ (Nat.le_refl _)))
  have HT5 : Hid (w5.heap[g + 1]? = some (vobj 44 (v3 zero3))) := Lib.hid (foot_kept FIN.out.2 HQ.out (by decide))
  have HS : Hid (∀ wx, Frm (· = km) wq wx → wx.cell? ⟨b, 0, none⟩ = some (.map (some km)) ∧ wx.cell? ⟨g, 0, none⟩ = some (.int .i64 k.a) ∧ wx.cell? ⟨g, 1, none⟩ = some (.int .i64 k.b) ∧ wx.cell? ⟨g, 2, none⟩ = some (.int .i64 k.c)) := Lib.hid (fun wx hf => by
    have hb := (hf.block b (heap_lt XQ.out.blk) (XQ.out.keys.ne_cells XQ.out.blk)).trans XQ.out.blk
    have hgk := (hf.block g (heap_lt KQ.out) (XQ.out.keys.ne_cells KQ.out)).trans KQ.out
    exact ⟨vobj_cell (vs := [.map (some km), .map (some jm)]) hb rfl, cells3 hgk⟩)
  have A0 : Hid (Frm (· = km) wq wq.drew) := Lib.hid (Frm.of_ali (drew_ali wq))
  have A1 : Hid (Frm (· = km) wq (wq.alloc (.cells #[.int .i64 id, .bool false, .int .i64 0, .int .i64 0, .int .i64 0] 70)).drew) := Lib.hid (by rw [hwe]; exact Frm.of_below bwe)
  have A5 := Lib.hid f5
  clear hst hm5 ht5 f5 e5 ewe bwe hxe hwe
  go_wp2
  go_region_held3 (fun v => v.cell? ⟨b, 0, none⟩ = some (.map (some km)) ∧ v.cell? ⟨g, 0, none⟩ = some (.int .i64 k.a) ∧ v.cell? ⟨g, 1, none⟩ = some (.int .i64 k.b) ∧ v.cell? ⟨g, 2, none⟩ = some (.int .i64 k.c))
    (first | exact HS.out _ A0.out | exact HS.out _ A1.out | exact HS.out _ A5.out) (fail)
  all_goals go_wp2_with (first
    | (refine wpList_build_agg rfl 44 #[] rfl (v3 zero3) (buildT _) ?_)
    | (refine wpList_store_agg rfl 44 _ _ rfl (g + 1) (v3 zero3) (v3 zero3) rfl rfl ?hz rfl (sizeT _) (v3_ones _) ?_; (case hz => exact HT5.out); intro w6 h6 f6 t6))
  all_goals (
    refine bodyPost_ret (v := .tuple #[.int .i64 1, .agg (aggV (v3 zero3))]) (results_num Try.results15 rfl (loadT h6) rfl) rfl ⟨rfl, FIN.out.1.beside HT5.out (by decide) f6, ?_⟩
    have fw := foot_of_below (F := F) (w := w) (by first | exact BQ.out | (rw [hg]; exact BQ.out)) FIN.out.2
    refine fw.trans f6 (fun j hj e => ?_)
    have e' : j = g + 1 := e
    exfalso
    first | omega | (rw [hg] at hj; omega))
end Go.Proofs.Ytlphahkmibhidaa
