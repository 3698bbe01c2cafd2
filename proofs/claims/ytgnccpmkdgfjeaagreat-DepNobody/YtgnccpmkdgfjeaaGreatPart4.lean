/- Contracts of the functions that the statement DepNobody reaches, part 4 of 5. -/
import Derived.Test.YtgnccpmkdgfjeaaGreatPart3
import Derived.Deep.LoopGhost
import Derived.Deep.RegionLaw
namespace Go.Proofs.YtgnccpmkdgfjeaaGreat
set_option linter.unusedVariables false
set_option maxRecDepth 100000
open Go.ChangeShapes Go.WideShapes Go.ChangeAt Go.RowKit

/-- What a configuration that may be gives. -/
structure CnfOk (c : Cnf) : Prop where
  fits : c.Fits
  may : c.May
theorem BK.asked_of (x : BK) (now : Int) : x.asked now = 1 ∨ x.asked now = 2 ∨ x.asked now = 3 := by
  unfold BK.asked
  split
  · exact .inr (.inr rfl)
  · split
    · exact .inl rfl
    · split
      · exact .inr (.inl rfl)
      · exact .inr (.inr rfl)
theorem BU.tells_of (S : BU) (x : Int) : S.tells x = 1 ∨ S.tells x = 2 ∨ S.tells x = 3 := by
  unfold BU.tells
  split
  · exact .inr (.inr rfl)
  · split
    · exact .inl rfl
    · split
      · exact .inr (.inl rfl)
      · split
        · exact .inr (.inr rfl)
        · split
          · exact .inr (.inl rfl)
          · exact .inr (.inr rfl)
theorem BU.lets_one {S : BU} {x : Int} (h : S.tells x = 1) : S.lets x = [] := by
  unfold BU.tells at h
  unfold BU.lets
  split at h
  · cases h
  · rename_i h1
    rw [if_neg h1]
    split at h
    · rename_i h2
      rw [if_pos h2]
    · split at h
      · cases h
      · split at h
        · cases h
        · split at h <;> cases h

set_option maxHeartbeats 8000000 in
theorem enter_short (D : DB) (N : Nat → Prop) (c : Cnf) (S : DS) (x : CL) (A : Option Addr) (n e : Nat) (M : Option Addr) (m d : Nat) (now : Nat) (w : World)
    (h : DepM w D N c S) (hb : Bat w A n e M m d x.zs x.ms) (ho : OffB N A n M m) (hl : S.cs.length + 1 < maxLen) (hn : n ≤ 1000) (hm : m ≤ 1000) (hcf : c.Fits) (hch : c.chain ≤ 3) (hbk : S.brk.Fits) (hw : ∀ z ∈ S.bul.wait, S.Has z)
    (hsp : 0 ≤ x.k.sp ∧ x.k.sp ≤ 3) (hnow : now ≤ 18446744073709551615) (ha : S.brk.asked now = 3) :
    Calls Tryz.prog 74 #[ptr D.db, .int .u64 now, callV A n e M m d x.k] w fun r w' => (∃ rv, r = .returned rv ∧ ResV w' w.heap.size rv (S.enter c now x).acts (S.enter c now x).outs) ∧ DepM w' D (NB N w) c (S.enter c now x).S ∧ Frm D.F w w' := by
  obtain ⟨g, hg⟩ : ∃ g, w.heap.size = g := ⟨_, rfl⟩
  obtain ⟨fs, hu⟩ := undCL
  have HU := Lib.hid hu
  obtain ⟨fr, hur⟩ := undRs
  have HUR := Lib.hid hur
  have H := Lib.hid h
  have HB := Lib.hid hb
  have HO := Lib.hid ho
  have HL := Lib.hid hl
  have HBK := Lib.hid hbk
  have HWT := Lib.hid hw
  have HX : Hid (x.zs.length ≤ 1000 ∧ x.ms.length ≤ 1000) := Lib.hid ⟨by rw [hb.alen]; exact hn, by rw [hb.mlen]; exact hm⟩
  have HID : Hid (wf64 x.id) := Lib.hid (lead_wf hb)
  have OLD : Hid (∀ j, D.F j → j < g) := Lib.hid (fun j hj => by rw [← hg]; exact h.old hj)
  have e3 : (S.brk.asked now == 3) = true := by simp [ha]
  have hE : S.enter c now x = ((S.askB now).addW c now 4).fall c now x 4 := by unfold DS.enter; rw [if_pos ha]
  obtain ⟨R, hR⟩ : ∃ R, S.enter c now x = R := ⟨_, rfl⟩
  rw [hR] at hE ⊢
  have HE := Lib.hid hE
  clear hR hE h hb ho hl hu hur hbk hw
  unfold ptr
  go_enter Tryz.func74, Tryz.ntmps74
  go_wp2_with (first
    | (refine wpList_box_agg rfl 135 _ rfl g hg (kvals A n e M m d x.k) rfl ?_; intro w0 k0 l0 s0;
       have K0 := Lib.hid k0; have L0 : Hid (Below w.heap.size w w0) := Lib.hid (by rw [hg]; exact l0); clear k0 l0)
    | (refine wpList_alloc_agg rfl 57 rfl (g + 1) s0 [.slice none 0 0, .slice none 0 0] (allocRs _) ?_; intro w1 k1 l1 s1; clear s0;
       have K1 := Lib.hid k1; have KC1 := Lib.hid ((l1.block g (by omega)).trans K0.out); have L1 : Hid (Below w.heap.size w w1) := Lib.hid (L0.out.trans (l1.mono (by omega))); clear k1 l1)
    | (refine wpList_alloc_agg rfl 57 rfl (g + 2) s1 [.slice none 0 0, .slice none 0 0] (allocRs _) ?_; intro w2 k2 l2 s2; clear s1;
       have K2 := Lib.hid k2; have KC2 := Lib.hid ((l2.block g (by omega)).trans KC1.out); have KR2 := Lib.hid ((l2.block (g + 1) (by omega)).trans K1.out); have L2 : Hid (Below w.heap.size w w2) := Lib.hid (L1.out.trans (l2.mono (by omega))); clear k2 l2 s2;
       have q0 : w2.cell? ⟨g, 0, none⟩ = some (.slice A n e) := vobj_cell KC2.out rfl; have q1 : w2.cell? ⟨g, 1, none⟩ = some (.slice M m d) := vobj_cell KC2.out rfl)
    | (go_at_call 73; refine (blead_any A n e M m d x.zs x.ms w2 (HB.out.below L2.out)).mono ?_; rintro r w3 ⟨rfl, l3⟩;
       have L3 : Hid (Below w.heap.size w w3) := Lib.hid (L2.out.trans (l3.mono L2.out.size));
       have KC3 := Lib.hid (kb_below KC2.out l3); have KR3 := Lib.hid (kb_below KR2.out l3); have K3 := Lib.hid (kb_below K2.out l3); clear q0 q1 l3;
       have H3 : Hid (DepM w3 D (NU N w) c S) := Lib.hid (H.out.nu.below L3.out);
       obtain ⟨c0, _, _, _, _, _, _⟩ := dobj_cells H3.out.blk)
    | (go_at_call 134; refine (ask_brk D.kb now _ w3 H3.out.brk HBK.out ⟨by omega, by omega⟩).mono ?_; rintro r w4 ⟨rfl, x4, f4⟩;
       have H4 : Hid (DepM w4 D (NU N w) c (S.askB now)) := Lib.hid (H3.out.brk1 f4 x4);
       have KC4 := Lib.hid ((f4.block g (heap_lt KC3.out) (fun e => by have := OLD.out _ (.inr (.inl rfl) : D.F D.kb); have e' : g = D.kb := e; omega)).trans KC3.out);
       have KR4 := Lib.hid ((f4.block (g + 1) (heap_lt KR3.out) (fun e => by have := OLD.out _ (.inr (.inl rfl) : D.F D.kb); have e' : g + 1 = D.kb := e; omega)).trans KR3.out);
       have K4 := Lib.hid ((f4.block (g + 2) (heap_lt K3.out) (fun e => by have := OLD.out _ (.inr (.inl rfl) : D.F D.kb); have e' : g + 2 = D.kb := e; omega)).trans K3.out);
       have F4 : Hid (Frm D.F w w4) := Lib.hid ((Frm.of_below L3.out).trans (f4.mono (F' := D.F) (fun j _ e => .inr (.inl e))) (fun _ _ h => h));
       have B4 : Hid (Bat w4 A n e M m d x.zs x.ms) := Lib.hid (HB.out.frm F4.out (HO.out.mono (fun j hj => H.out.inN j hj)));
       clear c0 x4 f4;
       obtain ⟨c0, c1, c18, _, _, c21, _⟩ := dobj_cells H4.out.blk; obtain ⟨_, c8, _⟩ := dobj_conf H4.out.blk)
    | (go_at_call 120; refine (add_win D.wb c.B c.W _ now 4 1 _ w4 H4.out.win hnow (by decide) (by decide) (by decide)).mono ?_; rintro r w5 ⟨rfl, f5, x5⟩;
       have H5 : Hid (DepM w5 D (NU N w) c ((S.askB now).addW c now 4)) := Lib.hid (H4.out.win1 f5 x5);
       have KC5 := Lib.hid ((f5.block g (heap_lt KC4.out) (fun e => by have := OLD.out _ ((.inr (.inr (.inr (.inl rfl)))) : D.F D.wb); have e' : g = D.wb := e; omega)).trans KC4.out);
       have KR5 := Lib.hid ((f5.block (g + 1) (heap_lt KR4.out) (fun e => by have := OLD.out _ ((.inr (.inr (.inr (.inl rfl)))) : D.F D.wb); have e' : g + 1 = D.wb := e; omega)).trans KR4.out);
       have K5 := Lib.hid ((f5.block (g + 2) (heap_lt K4.out) (fun e => by have := OLD.out _ ((.inr (.inr (.inr (.inl rfl)))) : D.F D.wb); have e' : g + 2 = D.wb := e; omega)).trans K4.out);
       have F5 : Hid (Frm D.F w w5) := Lib.hid (F4.out.trans (f5.mono (F' := D.F) (fun j _ e => by have e' : j = D.wb := e; rw [e']; exact (.inr (.inr (.inr (.inl rfl)))))) (fun _ _ h => h));
       have B5 : Hid (Bat w5 A n e M m d x.zs x.ms) := Lib.hid (HB.out.frm F5.out (HO.out.mono (fun j hj => H.out.inN j hj)));
       clear f5 x5)
    | (refine wpList_load_agg rfl 135 _ rfl g rfl (kvals A n e M m d x.k) ?hz _ HU.out rfl sizeCL ?_; (case hz => exact KC5.out))
    | (go_at_call 70; refine (fall_any D (NU N w) c _ x A n e M m d (g + 2) g (.slice none 0 0) [] now 4 w5 H5.out B5.out (Nat.lt_of_succ_lt HL.out) (resN_new K5.out (by omega)) (fun j hj => by rcases hj with rfl | hj; exact .inr (by omega); cases hj) hn hm OLD.out (by decide) hcf hch hsp hnow).mono ?_; rintro r w6 ⟨rfl, h6, r6, f6⟩;
       obtain ⟨v6, o6, rd6⟩ := r6; obtain ⟨A6, n6, e6, P6, q6, p6, rfl, rfl, ra6, ro6, fa6, fo6⟩ := rd6.val;
       have H6 := Lib.hid h6; have RD6 := Lib.hid rd6; have RA6 := Lib.hid ra6; have RO6 := Lib.hid ro6; have FA6 := Lib.hid fa6; have FO6 := Lib.hid fo6;
       have KR6 : Hid (w6.heap[g + 1]? = some (resO (.slice none 0 0) (.slice none 0 0))) := Lib.hid ((f6.block (g + 1) (heap_lt KR5.out) (fun hc => by rcases hc with hc | hc | hc; (have := OLD.out _ (DB.G_F hc); omega); (have e' : g + 1 = g + 2 := hc; omega); cases hc)).trans KR5.out);
       have F6 : Hid (Frm D.F w w6) := Lib.hid (F5.out.trans f6 (fun j hj hc => by rcases hc with hc | hc | hc; exact DB.G_F hc; (have e' : j = g + 2 := hc; exfalso; omega); cases hc)); clear h6 rd6 ra6 ro6 fa6 fo6 f6)
    | (refine wpList_load_agg rfl 57 _ rfl (g + 2) rfl [.slice A6 n6 e6, .slice P6 q6 p6] ?hz _ HUR.out rfl sizeRs ?_; (case hz => exact RD6.out.blk))
    | (refine wpList_store_agg rfl 57 _ _ rfl (g + 1) [.slice none 0 0, .slice none 0 0] [.slice A6 n6 e6, .slice P6 q6 p6] rfl rfl ?hz rfl sizeRs (onesRs _ _ _ _ _ _) ?_; (case hz => exact KR6.out); intro w7 k7 f7 _;
       have K7 := Lib.hid k7; have F7 := Lib.hid f7; clear k7 f7))
  refine bodyPost_ret (v := .agg #[.slice A6 n6 e6, .slice P6 q6 p6]) (results_agg Tryz.results74 rfl (loadRs K7.out)) rfl ?_
  rw [HE.out]
  refine ⟨⟨_, rfl, by rw [hg]; exact ResV.cell RA6.out RO6.out FA6.out FO6.out KR6.out F7.out⟩, ?_, F6.out.trans F7.out (fun j hj e => by have e' : j = g + 1 := e; exfalso; omega)⟩
  have h7 : DepM w7 D (NB (NU N w) w5) c _ := H6.out.frm1 F7.out ⟨.inr (by omega), heap_lt KR5.out⟩ (ty_cells KR6.out) (by decide) (by decide) (by decide) (by decide) (by decide) (by decide) (by decide)
  exact H.out.back h7 F5.out.size

theorem put_le (S : DS) (x : CL) : (S.put x).cs.length ≤ S.cs.length + 1 := by
  show (without S.cs x.id ++ [x]).length ≤ _
  rw [List.length_append]
  have : (without S.cs x.id).length ≤ S.cs.length := List.length_filter_le _ _
  simp; omega
theorem lets_len (S : BU) (x : Int) : (S.lets x).length ≤ 1 := by
  unfold BU.lets
  split
  · simp
  · split
    · simp
    · split
      · simp
      · split
        · simp
        · split <;> simp
theorem DS.bul_ww {w : World} {D : DB} {N : Nat → Prop} {c : Cnf} (S : DS) (h : DepM w D N c S) {x z : Int} (hz : z ∈ S.bul.lets x) : wf64 z := h.bul.ok.ww z (BU.lets_wait hz)

set_option maxHeartbeats 8000000 in
theorem enter_rp (D : DB) (N : Nat → Prop) (c : Cnf) (S : DS) (x : CL) (A : Option Addr) (n e : Nat) (M : Option Addr) (m d : Nat) (now : Nat) (w : World)
    (h : DepM w D N c S) (hb : Bat w A n e M m d x.zs x.ms) (ho : OffB N A n M m) (hl : S.cs.length + 1 < maxLen) (hn : n ≤ 1000) (hm : m ≤ 1000) (hcf : c.Fits) (hch : c.chain ≤ 3) (hbk : S.brk.Fits) (hw : ∀ z ∈ S.bul.wait, S.Has z)
    (hsp : 0 ≤ x.k.sp ∧ x.k.sp ≤ 3) (hnow : now ≤ 18446744073709551615) (ha : S.brk.asked now = 2) (ht : S.bul.tells x.id = 3) :
    Calls Tryz.prog 74 #[ptr D.db, .int .u64 now, callV A n e M m d x.k] w fun r w' => (∃ rv, r = .returned rv ∧ ResV w' w.heap.size rv (S.enter c now x).acts (S.enter c now x).outs) ∧ DepM w' D (NB N w) c (S.enter c now x).S ∧ Frm D.F w w' := by
  obtain ⟨g, hg⟩ : ∃ g, w.heap.size = g := ⟨_, rfl⟩
  obtain ⟨fs, hu⟩ := undCL
  have HU := Lib.hid hu
  obtain ⟨fr, hur⟩ := undRs
  have HUR := Lib.hid hur
  have H := Lib.hid h
  have HB := Lib.hid hb
  have HO := Lib.hid ho
  have HL := Lib.hid hl
  have HBK := Lib.hid hbk
  have HWT := Lib.hid hw
  have HX : Hid (x.zs.length ≤ 1000 ∧ x.ms.length ≤ 1000) := Lib.hid ⟨by rw [hb.alen]; exact hn, by rw [hb.mlen]; exact hm⟩
  have HID : Hid (wf64 x.id) := Lib.hid (lead_wf hb)
  have OLD : Hid (∀ j, D.F j → j < g) := Lib.hid (fun j hj => by rw [← hg]; exact h.old hj)
  have e3 : (S.brk.asked now == 3) = false := by simp [ha]
  have e2 : (S.brk.asked now == 2) = true := by simp [ha]
  have t3 : (S.bul.tells x.id == 3) = true := by simp [ht]
  have hT : (S.askB now).prob (S.brk.asked now) x.id = ((S.askB now).pr_ x.id) := by unfold DS.prob; rw [if_pos ha]
  have hE : S.enter c now x = (((S.askB now).pr_ x.id).bulB (S.bul.adm x.id)).refused c now x := by unfold DS.enter; dsimp only; rw [hT, if_neg (by omega), if_pos (show ((S.askB now).pr_ x.id).bul.tells x.id = 3 from ht)]; rfl
  obtain ⟨R, hR⟩ : ∃ R, S.enter c now x = R := ⟨_, rfl⟩
  rw [hR] at hE ⊢
  have HE := Lib.hid hE
  clear hR hE h hb ho hl hu hur hbk hw
  unfold ptr
  go_enter Tryz.func74, Tryz.ntmps74
  go_wp2_with (first
    | (refine wpList_box_agg rfl 135 _ rfl g hg (kvals A n e M m d x.k) rfl ?_; intro w0 k0 l0 s0;
       have K0 := Lib.hid k0; have L0 : Hid (Below w.heap.size w w0) := Lib.hid (by rw [hg]; exact l0); clear k0 l0)
    | (refine wpList_alloc_agg rfl 57 rfl (g + 1) s0 [.slice none 0 0, .slice none 0 0] (allocRs _) ?_; intro w1 k1 l1 s1; clear s0;
       have K1 := Lib.hid k1; have KC1 := Lib.hid ((l1.block g (by omega)).trans K0.out); have L1 : Hid (Below w.heap.size w w1) := Lib.hid (L0.out.trans (l1.mono (by omega))); clear k1 l1)
    | (refine wpList_alloc_agg rfl 57 rfl (g + 2) s1 [.slice none 0 0, .slice none 0 0] (allocRs _) ?_; intro w2 k2 l2 s2; clear s1;
       have K2 := Lib.hid k2; have KC2 := Lib.hid ((l2.block g (by omega)).trans KC1.out); have KR2 := Lib.hid ((l2.block (g + 1) (by omega)).trans K1.out); have L2 : Hid (Below w.heap.size w w2) := Lib.hid (L1.out.trans (l2.mono (by omega))); clear k2 l2 s2;
       have q0 : w2.cell? ⟨g, 0, none⟩ = some (.slice A n e) := vobj_cell KC2.out rfl; have q1 : w2.cell? ⟨g, 1, none⟩ = some (.slice M m d) := vobj_cell KC2.out rfl)
    | (go_at_call 73; refine (blead_any A n e M m d x.zs x.ms w2 (HB.out.below L2.out)).mono ?_; rintro r w3 ⟨rfl, l3⟩;
       have L3 : Hid (Below w.heap.size w w3) := Lib.hid (L2.out.trans (l3.mono L2.out.size));
       have KC3 := Lib.hid (kb_below KC2.out l3); have KR3 := Lib.hid (kb_below KR2.out l3); have K3 := Lib.hid (kb_below K2.out l3); clear q0 q1 l3;
       have H3 : Hid (DepM w3 D (NU N w) c S) := Lib.hid (H.out.nu.below L3.out);
       obtain ⟨c0, _, _, _, _, _, _⟩ := dobj_cells H3.out.blk)
    | (go_at_call 134; refine (ask_brk D.kb now _ w3 H3.out.brk HBK.out ⟨by omega, by omega⟩).mono ?_; rintro r w4 ⟨rfl, x4, f4⟩;
       have H4 : Hid (DepM w4 D (NU N w) c (S.askB now)) := Lib.hid (H3.out.brk1 f4 x4);
       have KC4 := Lib.hid ((f4.block g (heap_lt KC3.out) (fun e => by have := OLD.out _ (.inr (.inl rfl) : D.F D.kb); have e' : g = D.kb := e; omega)).trans KC3.out);
       have KR4 := Lib.hid ((f4.block (g + 1) (heap_lt KR3.out) (fun e => by have := OLD.out _ (.inr (.inl rfl) : D.F D.kb); have e' : g + 1 = D.kb := e; omega)).trans KR3.out);
       have K4 := Lib.hid ((f4.block (g + 2) (heap_lt K3.out) (fun e => by have := OLD.out _ (.inr (.inl rfl) : D.F D.kb); have e' : g + 2 = D.kb := e; omega)).trans K3.out);
       have F4 : Hid (Frm D.F w w4) := Lib.hid ((Frm.of_below L3.out).trans (f4.mono (F' := D.F) (fun j _ e => .inr (.inl e))) (fun _ _ h => h));
       have B4 : Hid (Bat w4 A n e M m d x.zs x.ms) := Lib.hid (HB.out.frm F4.out (HO.out.mono (fun j hj => H.out.inN j hj)));
       clear c0 x4 f4;
       obtain ⟨c0, c1, c18, _, _, c21, _⟩ := dobj_cells H4.out.blk; obtain ⟨_, c8, _⟩ := dobj_conf H4.out.blk)
    | (refine wpList_store_one rfl 3 _ _ rfl D.db 22 114 (depV D c S.pr) (.int .i64 x.id) rfl rfl ?hz (by show 22 < 23; decide) size1p rfl rfl ?_; (case hz => exact H4.out.blk); intro w5 k5 f5 _;
       have H5 : Hid (DepM w5 D (NU N w) c ((S.askB now).pr_ x.id)) := Lib.hid (H4.out.pr2 f5 k5);
       have KC5 := Lib.hid ((f5.block g (heap_lt KC4.out) (fun e => by have := OLD.out _ ((.inl rfl) : D.F D.db); have e' : g = D.db := e; omega)).trans KC4.out);
       have KR5 := Lib.hid ((f5.block (g + 1) (heap_lt KR4.out) (fun e => by have := OLD.out _ ((.inl rfl) : D.F D.db); have e' : g + 1 = D.db := e; omega)).trans KR4.out);
       have K5 := Lib.hid ((f5.block (g + 2) (heap_lt K4.out) (fun e => by have := OLD.out _ ((.inl rfl) : D.F D.db); have e' : g + 2 = D.db := e; omega)).trans K4.out);
       have F5 : Hid (Frm D.F w w5) := Lib.hid (F4.out.trans (f5.mono (F' := D.F) (fun j _ e => by have e' : j = D.db := e; rw [e']; exact (.inl rfl))) (fun _ _ h => h));
       have B5 : Hid (Bat w5 A n e M m d x.zs x.ms) := Lib.hid (HB.out.frm F5.out (HO.out.mono (fun j hj => H.out.inN j hj)));
       clear k5 f5 c0 c1 c18 c21 c8;
       obtain ⟨_, c1, _, _, _, _, _⟩ := dobj_cells H5.out.blk)
    | (go_at_call 135; refine (admit_bul D.ub D.f S.bul x.id w5 H5.out.bul HID.out).mono ?_; rintro r w6 ⟨v6, rfl, i6, x6, f6⟩;
       obtain ⟨I6, m6, z6, rfl, hI6, hI6n, _, _⟩ := own_row' i6; have I6R := Lib.hid (row_rowR hI6 hI6n.out); have I6F : Hid (Fresh w5.heap.size I6) := Lib.hid (fun b off e => i6.low b (by rw [e]; rfl));
       have H6 : Hid (DepM w6 D (NU N w) c (((S.askB now).pr_ x.id).bulB (S.bul.adm x.id))) := Lib.hid (H5.out.bul1 f6 x6);
       have KC6 := Lib.hid ((f6.block g (heap_lt KC5.out) (fun e => by have := OLD.out _ (.inr (.inr (.inl e)) : D.F g); omega)).trans KC5.out);
       have KR6 := Lib.hid ((f6.block (g + 1) (heap_lt KR5.out) (fun e => by have := OLD.out _ (.inr (.inr (.inl e)) : D.F (g + 1)); omega)).trans KR5.out);
       have K6 := Lib.hid ((f6.block (g + 2) (heap_lt K5.out) (fun e => by have := OLD.out _ (.inr (.inr (.inl e)) : D.F (g + 2)); omega)).trans K5.out);
       have F6 : Hid (Frm D.F w w6) := Lib.hid (F5.out.trans (f6.mono (F' := D.F) (fun j _ e => .inr (.inr (.inl e)))) (fun _ _ h => h));
       have B6 : Hid (Bat w6 A n e M m d x.zs x.ms) := Lib.hid (HB.out.frm F6.out (HO.out.mono (fun j hj => H.out.inN j hj)));
       have S5 : Hid (w.heap.size ≤ w5.heap.size ∧ g + 2 < w5.heap.size) := Lib.hid ⟨F5.out.size, heap_lt K5.out⟩;
       clear i6 x6 f6 hI6 hI6n c1)
    | (refine wpList_load_agg rfl 135 _ rfl g rfl (kvals A n e M m d x.k) ?hz _ HU.out rfl sizeCL ?_; (case hz => exact KC6.out))
    | (go_at_call 136; refine (refuse_any D (NU N w) c _ x A n e M m d (g + 2) g (.slice none 0 0) [] now w6 H6.out B6.out (Nat.lt_of_succ_lt HL.out) (resN_new K6.out (by omega)) (fun j hj => by rcases hj with rfl | hj; exact .inr (by omega); cases hj) hn hm OLD.out (by decide) hcf hch hsp hnow (HB.out.off_new HO.out (fun j hj => hj))).mono ?_; rintro r w8 ⟨rfl, h8, r8, f8⟩;
       obtain ⟨v8, o8, rd8⟩ := r8; obtain ⟨A8, n8, e8, P8, q8, p8, rfl, rfl, ra8, ro8, fa8, fo8⟩ := rd8.val;
       have H8 := Lib.hid h8; have RD8 := Lib.hid rd8; have RA8 := Lib.hid ra8; have RO8 := Lib.hid ro8; have FA8 := Lib.hid fa8; have FO8 := Lib.hid fo8;
       have KR8 : Hid (w8.heap[g + 1]? = some (resO (.slice none 0 0) (.slice none 0 0))) := Lib.hid ((f8.block (g + 1) (heap_lt KR6.out) (fun hc => by rcases hc with hc | hc | hc; (have := OLD.out _ hc; omega); (have e' : g + 1 = g + 2 := hc; omega); cases hc)).trans KR6.out);
       have F8 : Hid (Frm D.F w w8) := Lib.hid (F6.out.trans f8 (fun j hj hc => by rcases hc with hc | hc | hc; exact hc; (have e' : j = g + 2 := hc; exfalso; omega); cases hc)); clear h8 rd8 ra8 ro8 fa8 fo8 f8)
    | (refine wpList_load_agg rfl 57 _ rfl (g + 2) rfl [.slice A8 n8 e8, .slice P8 q8 p8] ?hz _ HUR.out rfl sizeRs ?_; (case hz => exact RD8.out.blk))
    | (refine wpList_store_agg rfl 57 _ _ rfl (g + 1) [.slice none 0 0, .slice none 0 0] [.slice A8 n8 e8, .slice P8 q8 p8] rfl rfl ?hz rfl sizeRs (onesRs _ _ _ _ _ _) ?_; (case hz => exact KR8.out); intro w9 k9 f9 _;
       have K9 := Lib.hid k9; have F9 := Lib.hid f9; clear k9 f9))
  refine bodyPost_ret (v := .agg #[.slice A8 n8 e8, .slice P8 q8 p8]) (results_agg Tryz.results74 rfl (loadRs K9.out)) rfl ?_
  rw [HE.out]
  refine ⟨⟨_, rfl, by rw [hg]; exact ResV.cell RA8.out RO8.out FA8.out FO8.out KR8.out F9.out⟩, ?_, F8.out.trans F9.out (fun j hj e => by have e' : j = g + 1 := e; exfalso; omega)⟩
  have h9 : DepM w9 D (NB (NU N w) w6) c _ := H8.out.frm1 F9.out ⟨.inr (by omega), heap_lt KR6.out⟩ (ty_cells KR8.out) (by decide) (by decide) (by decide) (by decide) (by decide) (by decide) (by decide)
  exact H.out.back h9 F6.out.size

set_option maxHeartbeats 8000000 in
theorem enter_ip (D : DB) (N : Nat → Prop) (c : Cnf) (S : DS) (x : CL) (A : Option Addr) (n e : Nat) (M : Option Addr) (m d : Nat) (now : Nat) (w : World)
    (h : DepM w D N c S) (hb : Bat w A n e M m d x.zs x.ms) (ho : OffB N A n M m) (hl : S.cs.length + 1 < maxLen) (hn : n ≤ 1000) (hm : m ≤ 1000) (hcf : c.Fits) (hch : c.chain ≤ 3) (hbk : S.brk.Fits) (hw : ∀ z ∈ S.bul.wait, S.Has z)
    (hsp : 0 ≤ x.k.sp ∧ x.k.sp ≤ 3) (hnow : now ≤ 18446744073709551615) (ha : S.brk.asked now = 2) (ht : S.bul.tells x.id = 1) :
    Calls Tryz.prog 74 #[ptr D.db, .int .u64 now, callV A n e M m d x.k] w fun r w' => (∃ rv, r = .returned rv ∧ ResV w' w.heap.size rv (S.enter c now x).acts (S.enter c now x).outs) ∧ DepM w' D (NB N w) c (S.enter c now x).S ∧ Frm D.F w w' := by
  obtain ⟨g, hg⟩ : ∃ g, w.heap.size = g := ⟨_, rfl⟩
  obtain ⟨fs, hu⟩ := undCL
  have HU := Lib.hid hu
  obtain ⟨fr, hur⟩ := undRs
  have HUR := Lib.hid hur
  have H := Lib.hid h
  have HB := Lib.hid hb
  have HO := Lib.hid ho
  have HL := Lib.hid hl
  have HBK := Lib.hid hbk
  have HWT := Lib.hid hw
  have HX : Hid (x.zs.length ≤ 1000 ∧ x.ms.length ≤ 1000) := Lib.hid ⟨by rw [hb.alen]; exact hn, by rw [hb.mlen]; exact hm⟩
  have HID : Hid (wf64 x.id) := Lib.hid (lead_wf hb)
  have OLD : Hid (∀ j, D.F j → j < g) := Lib.hid (fun j hj => by rw [← hg]; exact h.old hj)
  have e3 : (S.brk.asked now == 3) = false := by simp [ha]
  have e2 : (S.brk.asked now == 2) = true := by simp [ha]
  have t3 : (S.bul.tells x.id == 3) = false := by simp [ht]
  have t1 : (S.bul.tells x.id == 1) = true := by simp [ht]
  have hT : (S.askB now).prob (S.brk.asked now) x.id = ((S.askB now).pr_ x.id) := by unfold DS.prob; rw [if_pos ha]
  have hE : S.enter c now x = ⟨(((((S.askB now).pr_ x.id).bulB (S.bul.adm x.id)).put x).run1 x.id).runL (S.bul.lets x.id), [⟨true, x.id, addS now c.timeout⟩], [], 0⟩ := by unfold DS.enter; dsimp only; rw [hT, if_neg (by omega), if_neg (show ¬ ((S.askB now).pr_ x.id).bul.tells x.id = 3 by show ¬ S.bul.tells x.id = 3; omega), if_pos (show ((S.askB now).pr_ x.id).bul.tells x.id = 1 by show S.bul.tells x.id = 1; omega)]; rfl
  obtain ⟨R, hR⟩ : ∃ R, S.enter c now x = R := ⟨_, rfl⟩
  rw [hR] at hE ⊢
  have HE := Lib.hid hE
  clear hR hE h hb ho hl hu hur hbk hw
  unfold ptr
  go_enter Tryz.func74, Tryz.ntmps74
  go_wp2_with (first
    | (refine wpList_box_agg rfl 135 _ rfl g hg (kvals A n e M m d x.k) rfl ?_; intro w0 k0 l0 s0;
       have K0 := Lib.hid k0; have L0 : Hid (Below w.heap.size w w0) := Lib.hid (by rw [hg]; exact l0); clear k0 l0)
    | (refine wpList_alloc_agg rfl 57 rfl (g + 1) s0 [.slice none 0 0, .slice none 0 0] (allocRs _) ?_; intro w1 k1 l1 s1; clear s0;
       have K1 := Lib.hid k1; have KC1 := Lib.hid ((l1.block g (by omega)).trans K0.out); have L1 : Hid (Below w.heap.size w w1) := Lib.hid (L0.out.trans (l1.mono (by omega))); clear k1 l1)
    | (refine wpList_alloc_agg rfl 57 rfl (g + 2) s1 [.slice none 0 0, .slice none 0 0] (allocRs _) ?_; intro w2 k2 l2 s2; clear s1;
       have K2 := Lib.hid k2; have KC2 := Lib.hid ((l2.block g (by omega)).trans KC1.out); have KR2 := Lib.hid ((l2.block (g + 1) (by omega)).trans K1.out); have L2 : Hid (Below w.heap.size w w2) := Lib.hid (L1.out.trans (l2.mono (by omega))); clear k2 l2 s2;
       have q0 : w2.cell? ⟨g, 0, none⟩ = some (.slice A n e) := vobj_cell KC2.out rfl; have q1 : w2.cell? ⟨g, 1, none⟩ = some (.slice M m d) := vobj_cell KC2.out rfl)
    | (go_at_call 73; refine (blead_any A n e M m d x.zs x.ms w2 (HB.out.below L2.out)).mono ?_; rintro r w3 ⟨rfl, l3⟩;
       have L3 : Hid (Below w.heap.size w w3) := Lib.hid (L2.out.trans (l3.mono L2.out.size));
       have KC3 := Lib.hid (kb_below KC2.out l3); have KR3 := Lib.hid (kb_below KR2.out l3); have K3 := Lib.hid (kb_below K2.out l3); clear q0 q1 l3;
       have H3 : Hid (DepM w3 D (NU N w) c S) := Lib.hid (H.out.nu.below L3.out);
       obtain ⟨c0, _, _, _, _, _, _⟩ := dobj_cells H3.out.blk)
    | (go_at_call 134; refine (ask_brk D.kb now _ w3 H3.out.brk HBK.out ⟨by omega, by omega⟩).mono ?_; rintro r w4 ⟨rfl, x4, f4⟩;
       have H4 : Hid (DepM w4 D (NU N w) c (S.askB now)) := Lib.hid (H3.out.brk1 f4 x4);
       have KC4 := Lib.hid ((f4.block g (heap_lt KC3.out) (fun e => by have := OLD.out _ (.inr (.inl rfl) : D.F D.kb); have e' : g = D.kb := e; omega)).trans KC3.out);
       have KR4 := Lib.hid ((f4.block (g + 1) (heap_lt KR3.out) (fun e => by have := OLD.out _ (.inr (.inl rfl) : D.F D.kb); have e' : g + 1 = D.kb := e; omega)).trans KR3.out);
       have K4 := Lib.hid ((f4.block (g + 2) (heap_lt K3.out) (fun e => by have := OLD.out _ (.inr (.inl rfl) : D.F D.kb); have e' : g + 2 = D.kb := e; omega)).trans K3.out);
       have F4 : Hid (Frm D.F w w4) := Lib.hid ((Frm.of_below L3.out).trans (f4.mono (F' := D.F) (fun j _ e => .inr (.inl e))) (fun _ _ h => h));
       have B4 : Hid (Bat w4 A n e M m d x.zs x.ms) := Lib.hid (HB.out.frm F4.out (HO.out.mono (fun j hj => H.out.inN j hj)));
       clear c0 x4 f4;
       obtain ⟨c0, c1, c18, _, _, c21, _⟩ := dobj_cells H4.out.blk; obtain ⟨_, c8, _⟩ := dobj_conf H4.out.blk)
    | (refine wpList_store_one rfl 3 _ _ rfl D.db 22 114 (depV D c S.pr) (.int .i64 x.id) rfl rfl ?hz (by show 22 < 23; decide) size1p rfl rfl ?_; (case hz => exact H4.out.blk); intro w5 k5 f5 _;
       have H5 : Hid (DepM w5 D (NU N w) c ((S.askB now).pr_ x.id)) := Lib.hid (H4.out.pr2 f5 k5);
       have KC5 := Lib.hid ((f5.block g (heap_lt KC4.out) (fun e => by have := OLD.out _ ((.inl rfl) : D.F D.db); have e' : g = D.db := e; omega)).trans KC4.out);
       have KR5 := Lib.hid ((f5.block (g + 1) (heap_lt KR4.out) (fun e => by have := OLD.out _ ((.inl rfl) : D.F D.db); have e' : g + 1 = D.db := e; omega)).trans KR4.out);
       have K5 := Lib.hid ((f5.block (g + 2) (heap_lt K4.out) (fun e => by have := OLD.out _ ((.inl rfl) : D.F D.db); have e' : g + 2 = D.db := e; omega)).trans K4.out);
       have F5 : Hid (Frm D.F w w5) := Lib.hid (F4.out.trans (f5.mono (F' := D.F) (fun j _ e => by have e' : j = D.db := e; rw [e']; exact (.inl rfl))) (fun _ _ h => h));
       have B5 : Hid (Bat w5 A n e M m d x.zs x.ms) := Lib.hid (HB.out.frm F5.out (HO.out.mono (fun j hj => H.out.inN j hj)));
       clear k5 f5 c0 c1 c18 c21 c8;
       obtain ⟨_, c1, _, _, _, _, _⟩ := dobj_cells H5.out.blk)
    | (go_at_call 135; refine (admit_bul D.ub D.f S.bul x.id w5 H5.out.bul HID.out).mono ?_; rintro r w6 ⟨v6, rfl, i6, x6, f6⟩;
       obtain ⟨I6, m6, z6, rfl, hI6, hI6n, _, _⟩ := own_row' i6; have I6R := Lib.hid (row_rowR hI6 hI6n.out); have I6F : Hid (Fresh w5.heap.size I6) := Lib.hid (fun b off e => i6.low b (by rw [e]; rfl));
       have H6 : Hid (DepM w6 D (NU N w) c (((S.askB now).pr_ x.id).bulB (S.bul.adm x.id))) := Lib.hid (H5.out.bul1 f6 x6);
       have KC6 := Lib.hid ((f6.block g (heap_lt KC5.out) (fun e => by have := OLD.out _ (.inr (.inr (.inl e)) : D.F g); omega)).trans KC5.out);
       have KR6 := Lib.hid ((f6.block (g + 1) (heap_lt KR5.out) (fun e => by have := OLD.out _ (.inr (.inr (.inl e)) : D.F (g + 1)); omega)).trans KR5.out);
       have K6 := Lib.hid ((f6.block (g + 2) (heap_lt K5.out) (fun e => by have := OLD.out _ (.inr (.inr (.inl e)) : D.F (g + 2)); omega)).trans K5.out);
       have F6 : Hid (Frm D.F w w6) := Lib.hid (F5.out.trans (f6.mono (F' := D.F) (fun j _ e => .inr (.inr (.inl e)))) (fun _ _ h => h));
       have B6 : Hid (Bat w6 A n e M m d x.zs x.ms) := Lib.hid (HB.out.frm F6.out (HO.out.mono (fun j hj => H.out.inN j hj)));
       have S5 : Hid (w.heap.size ≤ w5.heap.size ∧ g + 2 < w5.heap.size) := Lib.hid ⟨F5.out.size, heap_lt K5.out⟩;
       clear i6 x6 f6 hI6 hI6n c1))
  have DD : Hid (DepM w6.drew D (NU N w) c (((S.askB now).pr_ x.id).bulB (S.bul.adm x.id))) := Lib.hid (H6.out.ali (drew_ali _))
  have KD : Hid (w6.drew.heap[g]? = some (kobj A n e M m d x.k)) := KC6
  have BD : Hid (Bat w6.drew A n e M m d x.zs x.ms) := Lib.hid (B6.out.below (ali_below (drew_ali _)))
  have KRD : Hid (w6.drew.heap[g + 1]? = some (resO (.slice none 0 0) (.slice none 0 0))) := KR6
  have K2D : Hid (w6.drew.heap[g + 2]? = some (resO (.slice none 0 0) (.slice none 0 0))) := K6
  have FD : Hid (Frm D.F w w6.drew) := Lib.hid (F6.out.ali (drew_ali _))
  have ID : Hid (RowR irec w6.drew I6 m6 (S.bul.lets x.id)) := Lib.hid (I6R.out.ali (drew_ali _))
  obtain ⟨wd, hwd⟩ : ∃ wd, w6.drew = wd := ⟨_, rfl⟩
  rw [hwd] at DD KD BD KRD K2D FD ID
  have HWD := Lib.hid hwd
  obtain ⟨_, _, _, _, _, c21, _⟩ := dobj_cells DD.out.blk
  have HKL := Lib.hid (fun (ρ : Operand → Value) (o : Oper) (ho : o.op = .load 135 (.tmp 5)) (hx : ρ (.tmp 5) = .pointer (some ⟨g, 0, none⟩)) => load_call KD.out ρ o ho hx)
  obtain ⟨w8, hr8, hd8, hf8⟩ := DD.out.store (N' := NU N w) BD.out (HB.out.off_new HO.out (fun j hj => hj)) (fun _ h => h) DD.out.inN (Nat.lt_of_succ_lt HL.out)
  have HR8 : (Instr.mapUpdate 112 (.map (some D.cm)) (.int .i64 (leadL x.ms)) (callV A n e M m d x.k)).run Tryz.prog wd = .ok () w8 := hr8
  have H8 := Lib.hid hd8
  have NCM : Hid (D.cm < g) := Lib.hid (OLD.out _ (.inr (.inr (.inr (.inr (.inr (.inr rfl)))))))
  have KR8 := Lib.hid ((hf8.block (g + 1) (heap_lt KRD.out) (fun e => by have e' : g + 1 = D.cm := e; have := NCM.out; omega)).trans KRD.out)
  have K8 := Lib.hid ((hf8.block (g + 2) (heap_lt K2D.out) (fun e => by have e' : g + 2 = D.cm := e; have := NCM.out; omega)).trans K2D.out)
  have F8 : Hid (Frm D.F w w8) := Lib.hid (FD.out.trans (hf8.mono (F' := D.F) (fun j _ e => .inr (.inr (.inr (.inr (.inr (.inr e))))))) (fun _ _ h => h))
  have I8 : Hid (RowR irec w8 I6 m6 (S.bul.lets x.id)) := Lib.hid (ID.out.frm hf8 (fun b off e hb => by have h1 := I6F.out b off e; have e' : b = D.cm := hb; have := NCM.out; have := S5.out; omega))
  obtain ⟨_, d8, _⟩ := dobj_conf hd8.blk
  clear hwd hr8 hd8 hf8 H6 KC6 KR6 K6 B6 F6 I6R
  refine region_tail 6 (by kernel_rfl) (by kernel_rfl) ?_
  simp only [List.take_succ_cons, List.take_zero, List.drop_succ_cons, List.drop_zero]
  rw [HWD.out]
  repeat still_step
  try (refine wpStill_run rfl (callV A n e M m d x.k) (HKL.out _ _ rfl rfl) ?_)
  refine wpStill_nil ?_
  go_wp2_with (first
    | (go_at_call 132; refine (set_any (g + 2) g (.slice none 0 0) [] x.id now c.timeout w8 (resN_new K8.out (by omega)) (by decide) (by have := heap_lt K8.out; omega) (by omega) (by omega) hcf.timeout.1 hcf.timeout.2).mono ?_; rintro r w9 ⟨rfl, r9, f9⟩;
       obtain ⟨v9, r9⟩ := r9; have R9 := Lib.hid r9;
       have RF9 : ∀ j, RF (g + 2) (.slice none 0 0) j → j = g + 2 := fun j hj => by (rcases hj with hj | hj; exact hj; cases hj);
       have H9 := Lib.hid (H8.out.resF (resN_new K8.out (Nat.le_refl (g + 2))) f9 (fun j hj => .inr (by rw [RF9 j hj]; omega)));
       have KR9 := Lib.hid ((f9.block (g + 1) (heap_lt KR8.out) (fun e => by have := RF9 _ e; omega)).trans KR8.out);
       have F9 : Hid (Frm D.F w w9) := Lib.hid (F8.out.trans f9 (fun j hj e => by have := RF9 _ e; exfalso; omega));
       have I9 : Hid (RowR irec w9 I6 m6 (S.bul.lets x.id)) := Lib.hid (I8.out.frm f9 (fun b off e hb => by have h1 := I6F.out b off e; have := RF9 _ hb; have := S5.out; omega));
       clear r9 f9 d8 RF9 c21)
    | (go_at_call 78; refine (run_any D (NU N w) c _ (some ⟨w9.heap.size, 0, none⟩) 1 1 [x.id] _ (H9.out.below (below_alloc w9 _)) (RowR.one (R := irec) w9 x.id 3 (cs := #[.int .i64 x.id]) rfl) (fun z hz => by rw [List.mem_singleton] at hz; subst hz; exact ⟨DS.Has.put_self _ HX.out.1 HX.out.2, HID.out⟩) (Nat.lt_of_le_of_lt (put_le _ x) HL.out) (by decide)).mono ?_; rintro r w10 ⟨rfl, h10, f10⟩;
       have SZ : Hid (w9.heap.size ≤ (w9.alloc (.cells #[.int .i64 x.id] 3)).heap.size) := Lib.hid (below_alloc w9 _).size;
       have H10 : Hid (DepM w10 D (NB (NU N w) w9) c (((((S.askB now).pr_ x.id).bulB (S.bul.adm x.id)).put x).run1 x.id)) := Lib.hid (h10.grow (fun j hj => .inl ⟨hj.1, Nat.lt_of_lt_of_le hj.2 SZ.out⟩) (fun j hj => ⟨H9.out.inN j hj, H9.out.old hj⟩));
       have B10 := below_alloc w9 (.cells #[.int .i64 x.id] 3);
       have R10 : Hid (ResN w10 (g + 2) g v9 ([] ++ [⟨true, x.id, addS now c.timeout⟩])) := Lib.hid ((R9.out.below B10).frm f10 (fun j e => by have e' : j = D.cm := e; rw [e']; exact NCM.out));
       have KR10 := Lib.hid ((f10.block (g + 1) (heap_lt (kb_below KR9.out B10)) (fun e => by have e' : g + 1 = D.cm := e; have := NCM.out; omega)).trans (kb_below KR9.out B10));
       have F10 : Hid (Frm D.F w w10) := Lib.hid ((F9.out.then_below B10).trans (f10.mono (F' := D.F) (fun j _ e => .inr (.inr (.inr (.inr (.inr (.inr e))))))) (fun _ _ h => h));
       have I10 : Hid (RowR irec w10 I6 m6 (S.bul.lets x.id)) := Lib.hid ((I9.out.later B10).frm f10 (fun b off e hb => by have h1 := I6F.out b off e; have e' : b = D.cm := hb; have := NCM.out; have := S5.out; omega));
       have S9 : Hid (w.heap.size ≤ w9.heap.size) := Lib.hid F9.out.size; have S9b : Hid (g + 2 < w9.heap.size) := Lib.hid (heap_lt R9.out.blk);
       clear h10 f10 B10 R9 KR9 H9 F9 I9)
    | (go_at_call 78; refine (run_any D (NB (NU N w) w9) c (((((S.askB now).pr_ x.id).bulB (S.bul.adm x.id)).put x).run1 x.id) I6 m6 z6 (S.bul.lets x.id) w10 H10.out I10.out (fun z hz => ⟨((show (((S.askB now).pr_ x.id).bulB (S.bul.adm x.id)).Has z from HWT.out z (BU.lets_wait hz)).put HX.out.1 HX.out.2).run1, S.bul_ww H.out hz⟩) (by rw [DS.run1_len (put_uni H4.out.uni)]; exact Nat.lt_of_le_of_lt (put_le _ x) HL.out) (by rw [← I10.out.1]; exact Nat.le_trans (lets_len _ _) (by decide))).mono ?_; rintro r w11 ⟨rfl, h11, f11⟩;
       have H11 := Lib.hid h11;
       have R11 : Hid (ResN w11 (g + 2) g v9 ([] ++ [⟨true, x.id, addS now c.timeout⟩])) := Lib.hid (R10.out.frm f11 (fun j e => by have e' : j = D.cm := e; rw [e']; exact NCM.out));
       obtain ⟨A11, n11, e11, P11, q11, p11, ev11, eo11, ra11, ro11, fa11, fo11⟩ := R11.out.done.val; injection eo11 with o1 o2 o3; subst ev11 o1 o2 o3;
       have RA11 := Lib.hid ra11; have FA11 := Lib.hid fa11;
       have KR11 := Lib.hid ((f11.block (g + 1) (heap_lt KR10.out) (fun e => by have e' : g + 1 = D.cm := e; have := NCM.out; omega)).trans KR10.out);
       have F11 : Hid (Frm D.F w w11) := Lib.hid (F10.out.trans (f11.mono (F' := D.F) (fun j _ e => .inr (.inr (.inr (.inr (.inr (.inr e))))))) (fun _ _ h => h));
       have S11 : Hid (w.heap.size ≤ w10.heap.size ∧ g + 2 < w10.heap.size) := Lib.hid ⟨F10.out.size, heap_lt R10.out.blk⟩;
       clear h11 f11 ra11 ro11 fa11 fo11 R10 KR10 I10)
    | (refine wpList_load_agg rfl 57 _ rfl (g + 2) rfl [.slice A11 n11 e11, .slice none 0 0] ?hz _ HUR.out rfl sizeRs ?_; (case hz => exact R11.out.blk))
    | (refine wpList_store_agg rfl 57 _ _ rfl (g + 1) [.slice none 0 0, .slice none 0 0] [.slice A11 n11 e11, .slice none 0 0] rfl rfl ?hz rfl sizeRs (onesRs _ _ _ _ _ _) ?_; (case hz => exact KR11.out); intro w12 k12 f12 _;
       have K12 := Lib.hid k12; have F12 := Lib.hid f12; clear k12 f12))
  refine bodyPost_ret (v := .agg #[.slice A11 n11 e11, .slice none 0 0]) (results_agg Tryz.results74 rfl (loadRs K12.out)) rfl ?_
  rw [HE.out]
  refine ⟨⟨_, rfl, by rw [hg]; exact ResV.cell RA11.out (RowR.nil _) FA11.out (Fresh.none _) KR11.out F12.out⟩, ?_, F11.out.trans F12.out (fun j hj e => by have e' : j = g + 1 := e; exfalso; omega)⟩
  have h12 : DepM w12 D (NB (NB (NU N w) w9) w10) c _ := H11.out.frm1 F12.out ⟨⟨.inr (by omega), by have := S9b.out; omega⟩, by have := S11.out; omega⟩ (ty_cells KR11.out) (by decide) (by decide) (by decide) (by decide) (by decide) (by decide) (by decide)
  exact h12.grow (fun j hj => .inl ⟨⟨.inl hj.1, Nat.lt_of_lt_of_le hj.2 S9.out⟩, Nat.lt_of_lt_of_le hj.2 S11.out.1⟩) (fun j hj => ⟨H.out.inN j hj, H.out.old hj⟩)

set_option maxHeartbeats 8000000 in
theorem enter_wp (D : DB) (N : Nat → Prop) (c : Cnf) (S : DS) (x : CL) (A : Option Addr) (n e : Nat) (M : Option Addr) (m d : Nat) (now : Nat) (w : World)
    (h : DepM w D N c S) (hb : Bat w A n e M m d x.zs x.ms) (ho : OffB N A n M m) (hl : S.cs.length + 1 < maxLen) (hn : n ≤ 1000) (hm : m ≤ 1000) (hcf : c.Fits) (hch : c.chain ≤ 3) (hbk : S.brk.Fits) (hw : ∀ z ∈ S.bul.wait, S.Has z)
    (hsp : 0 ≤ x.k.sp ∧ x.k.sp ≤ 3) (hnow : now ≤ 18446744073709551615) (ha : S.brk.asked now = 2) (ht : S.bul.tells x.id = 2) :
    Calls Tryz.prog 74 #[ptr D.db, .int .u64 now, callV A n e M m d x.k] w fun r w' => (∃ rv, r = .returned rv ∧ ResV w' w.heap.size rv (S.enter c now x).acts (S.enter c now x).outs) ∧ DepM w' D (NB N w) c (S.enter c now x).S ∧ Frm D.F w w' := by
  obtain ⟨g, hg⟩ : ∃ g, w.heap.size = g := ⟨_, rfl⟩
  obtain ⟨fs, hu⟩ := undCL
  have HU := Lib.hid hu
  obtain ⟨fr, hur⟩ := undRs
  have HUR := Lib.hid hur
  have H := Lib.hid h
  have HB := Lib.hid hb
  have HO := Lib.hid ho
  have HL := Lib.hid hl
  have HBK := Lib.hid hbk
  have HWT := Lib.hid hw
  have HX : Hid (x.zs.length ≤ 1000 ∧ x.ms.length ≤ 1000) := Lib.hid ⟨by rw [hb.alen]; exact hn, by rw [hb.mlen]; exact hm⟩
  have HID : Hid (wf64 x.id) := Lib.hid (lead_wf hb)
  have OLD : Hid (∀ j, D.F j → j < g) := Lib.hid (fun j hj => by rw [← hg]; exact h.old hj)
  have e3 : (S.brk.asked now == 3) = false := by simp [ha]
  have e2 : (S.brk.asked now == 2) = true := by simp [ha]
  have t3 : (S.bul.tells x.id == 3) = false := by simp [ht]
  have t1 : (S.bul.tells x.id == 1) = false := by simp [ht]
  have hT : (S.askB now).prob (S.brk.asked now) x.id = ((S.askB now).pr_ x.id) := by unfold DS.prob; rw [if_pos ha]
  have hE : S.enter c now x = ⟨((((S.askB now).pr_ x.id).bulB (S.bul.adm x.id)).put x).runL (S.bul.lets x.id), [⟨true, x.id, addS now c.timeout⟩], [], 0⟩ := by unfold DS.enter; dsimp only; rw [hT, if_neg (by omega), if_neg (show ¬ ((S.askB now).pr_ x.id).bul.tells x.id = 3 by show ¬ S.bul.tells x.id = 3; omega), if_neg (show ¬ ((S.askB now).pr_ x.id).bul.tells x.id = 1 by show ¬ S.bul.tells x.id = 1; omega)]; rfl
  obtain ⟨R, hR⟩ : ∃ R, S.enter c now x = R := ⟨_, rfl⟩
  rw [hR] at hE ⊢
  have HE := Lib.hid hE
  clear hR hE h hb ho hl hu hur hbk hw
  unfold ptr
  go_enter Tryz.func74, Tryz.ntmps74
  go_wp2_with (first
    | (refine wpList_box_agg rfl 135 _ rfl g hg (kvals A n e M m d x.k) rfl ?_; intro w0 k0 l0 s0;
       have K0 := Lib.hid k0; have L0 : Hid (Below w.heap.size w w0) := Lib.hid (by rw [hg]; exact l0); clear k0 l0)
    | (refine wpList_alloc_agg rfl 57 rfl (g + 1) s0 [.slice none 0 0, .slice none 0 0] (allocRs _) ?_; intro w1 k1 l1 s1; clear s0;
       have K1 := Lib.hid k1; have KC1 := Lib.hid ((l1.block g (by omega)).trans K0.out); have L1 : Hid (Below w.heap.size w w1) := Lib.hid (L0.out.trans (l1.mono (by omega))); clear k1 l1)
    | (refine wpList_alloc_agg rfl 57 rfl (g + 2) s1 [.slice none 0 0, .slice none 0 0] (allocRs _) ?_; intro w2 k2 l2 s2; clear s1;
       have K2 := Lib.hid k2; have KC2 := Lib.hid ((l2.block g (by omega)).trans KC1.out); have KR2 := Lib.hid ((l2.block (g + 1) (by omega)).trans K1.out); have L2 : Hid (Below w.heap.size w w2) := Lib.hid (L1.out.trans (l2.mono (by omega))); clear k2 l2 s2;
       have q0 : w2.cell? ⟨g, 0, none⟩ = some (.slice A n e) := vobj_cell KC2.out rfl; have q1 : w2.cell? ⟨g, 1, none⟩ = some (.slice M m d) := vobj_cell KC2.out rfl)
    | (go_at_call 73; refine (blead_any A n e M m d x.zs x.ms w2 (HB.out.below L2.out)).mono ?_; rintro r w3 ⟨rfl, l3⟩;
       have L3 : Hid (Below w.heap.size w w3) := Lib.hid (L2.out.trans (l3.mono L2.out.size));
       have KC3 := Lib.hid (kb_below KC2.out l3); have KR3 := Lib.hid (kb_below KR2.out l3); have K3 := Lib.hid (kb_below K2.out l3); clear q0 q1 l3;
       have H3 : Hid (DepM w3 D (NU N w) c S) := Lib.hid (H.out.nu.below L3.out);
       obtain ⟨c0, _, _, _, _, _, _⟩ := dobj_cells H3.out.blk)
    | (go_at_call 134; refine (ask_brk D.kb now _ w3 H3.out.brk HBK.out ⟨by omega, by omega⟩).mono ?_; rintro r w4 ⟨rfl, x4, f4⟩;
       have H4 : Hid (DepM w4 D (NU N w) c (S.askB now)) := Lib.hid (H3.out.brk1 f4 x4);
       have KC4 := Lib.hid ((f4.block g (heap_lt KC3.out) (fun e => by have := OLD.out _ (.inr (.inl rfl) : D.F D.kb); have e' : g = D.kb := e; omega)).trans KC3.out);
       have KR4 := Lib.hid ((f4.block (g + 1) (heap_lt KR3.out) (fun e => by have := OLD.out _ (.inr (.inl rfl) : D.F D.kb); have e' : g + 1 = D.kb := e; omega)).trans KR3.out);
       have K4 := Lib.hid ((f4.block (g + 2) (heap_lt K3.out) (fun e => by have := OLD.out _ (.inr (.inl rfl) : D.F D.kb); have e' : g + 2 = D.kb := e; omega)).trans K3.out);
       have F4 : Hid (Frm D.F w w4) := Lib.hid ((Frm.of_below L3.out).trans (f4.mono (F' := D.F) (fun j _ e => .inr (.inl e))) (fun _ _ h => h));
       have B4 : Hid (Bat w4 A n e M m d x.zs x.ms) := Lib.hid (HB.out.frm F4.out (HO.out.mono (fun j hj => H.out.inN j hj)));
       clear c0 x4 f4;
       obtain ⟨c0, c1, c18, _, _, c21, _⟩ := dobj_cells H4.out.blk; obtain ⟨_, c8, _⟩ := dobj_conf H4.out.blk)
    | (refine wpList_store_one rfl 3 _ _ rfl D.db 22 114 (depV D c S.pr) (.int .i64 x.id) rfl rfl ?hz (by show 22 < 23; decide) size1p rfl rfl ?_; (case hz => exact H4.out.blk); intro w5 k5 f5 _;
       have H5 : Hid (DepM w5 D (NU N w) c ((S.askB now).pr_ x.id)) := Lib.hid (H4.out.pr2 f5 k5);
       have KC5 := Lib.hid ((f5.block g (heap_lt KC4.out) (fun e => by have := OLD.out _ ((.inl rfl) : D.F D.db); have e' : g = D.db := e; omega)).trans KC4.out);
       have KR5 := Lib.hid ((f5.block (g + 1) (heap_lt KR4.out) (fun e => by have := OLD.out _ ((.inl rfl) : D.F D.db); have e' : g + 1 = D.db := e; omega)).trans KR4.out);
       have K5 := Lib.hid ((f5.block (g + 2) (heap_lt K4.out) (fun e => by have := OLD.out _ ((.inl rfl) : D.F D.db); have e' : g + 2 = D.db := e; omega)).trans K4.out);
       have F5 : Hid (Frm D.F w w5) := Lib.hid (F4.out.trans (f5.mono (F' := D.F) (fun j _ e => by have e' : j = D.db := e; rw [e']; exact (.inl rfl))) (fun _ _ h => h));
       have B5 : Hid (Bat w5 A n e M m d x.zs x.ms) := Lib.hid (HB.out.frm F5.out (HO.out.mono (fun j hj => H.out.inN j hj)));
       clear k5 f5 c0 c1 c18 c21 c8;
       obtain ⟨_, c1, _, _, _, _, _⟩ := dobj_cells H5.out.blk)
    | (go_at_call 135; refine (admit_bul D.ub D.f S.bul x.id w5 H5.out.bul HID.out).mono ?_; rintro r w6 ⟨v6, rfl, i6, x6, f6⟩;
       obtain ⟨I6, m6, z6, rfl, hI6, hI6n, _, _⟩ := own_row' i6; have I6R := Lib.hid (row_rowR hI6 hI6n.out); have I6F : Hid (Fresh w5.heap.size I6) := Lib.hid (fun b off e => i6.low b (by rw [e]; rfl));
       have H6 : Hid (DepM w6 D (NU N w) c (((S.askB now).pr_ x.id).bulB (S.bul.adm x.id))) := Lib.hid (H5.out.bul1 f6 x6);
       have KC6 := Lib.hid ((f6.block g (heap_lt KC5.out) (fun e => by have := OLD.out _ (.inr (.inr (.inl e)) : D.F g); omega)).trans KC5.out);
       have KR6 := Lib.hid ((f6.block (g + 1) (heap_lt KR5.out) (fun e => by have := OLD.out _ (.inr (.inr (.inl e)) : D.F (g + 1)); omega)).trans KR5.out);
       have K6 := Lib.hid ((f6.block (g + 2) (heap_lt K5.out) (fun e => by have := OLD.out _ (.inr (.inr (.inl e)) : D.F (g + 2)); omega)).trans K5.out);
       have F6 : Hid (Frm D.F w w6) := Lib.hid (F5.out.trans (f6.mono (F' := D.F) (fun j _ e => .inr (.inr (.inl e)))) (fun _ _ h => h));
       have B6 : Hid (Bat w6 A n e M m d x.zs x.ms) := Lib.hid (HB.out.frm F6.out (HO.out.mono (fun j hj => H.out.inN j hj)));
       have S5 : Hid (w.heap.size ≤ w5.heap.size ∧ g + 2 < w5.heap.size) := Lib.hid ⟨F5.out.size, heap_lt K5.out⟩;
       clear i6 x6 f6 hI6 hI6n c1))
  have DD : Hid (DepM w6.drew D (NU N w) c (((S.askB now).pr_ x.id).bulB (S.bul.adm x.id))) := Lib.hid (H6.out.ali (drew_ali _))
  have KD : Hid (w6.drew.heap[g]? = some (kobj A n e M m d x.k)) := KC6
  have BD : Hid (Bat w6.drew A n e M m d x.zs x.ms) := Lib.hid (B6.out.below (ali_below (drew_ali _)))
  have KRD : Hid (w6.drew.heap[g + 1]? = some (resO (.slice none 0 0) (.slice none 0 0))) := KR6
  have K2D : Hid (w6.drew.heap[g + 2]? = some (resO (.slice none 0 0) (.slice none 0 0))) := K6
  have FD : Hid (Frm D.F w w6.drew) := Lib.hid (F6.out.ali (drew_ali _))
  have ID : Hid (RowR irec w6.drew I6 m6 (S.bul.lets x.id)) := Lib.hid (I6R.out.ali (drew_ali _))
  obtain ⟨wd, hwd⟩ : ∃ wd, w6.drew = wd := ⟨_, rfl⟩
  rw [hwd] at DD KD BD KRD K2D FD ID
  have HWD := Lib.hid hwd
  obtain ⟨_, _, _, _, _, c21, _⟩ := dobj_cells DD.out.blk
  have HKL := Lib.hid (fun (ρ : Operand → Value) (o : Oper) (ho : o.op = .load 135 (.tmp 5)) (hx : ρ (.tmp 5) = .pointer (some ⟨g, 0, none⟩)) => load_call KD.out ρ o ho hx)
  obtain ⟨w8, hr8, hd8, hf8⟩ := DD.out.store (N' := NU N w) BD.out (HB.out.off_new HO.out (fun j hj => hj)) (fun _ h => h) DD.out.inN (Nat.lt_of_succ_lt HL.out)
  have HR8 : (Instr.mapUpdate 112 (.map (some D.cm)) (.int .i64 (leadL x.ms)) (callV A n e M m d x.k)).run Tryz.prog wd = .ok () w8 := hr8
  have H8 := Lib.hid hd8
  have NCM : Hid (D.cm < g) := Lib.hid (OLD.out _ (.inr (.inr (.inr (.inr (.inr (.inr rfl)))))))
  have KR8 := Lib.hid ((hf8.block (g + 1) (heap_lt KRD.out) (fun e => by have e' : g + 1 = D.cm := e; have := NCM.out; omega)).trans KRD.out)
  have K8 := Lib.hid ((hf8.block (g + 2) (heap_lt K2D.out) (fun e => by have e' : g + 2 = D.cm := e; have := NCM.out; omega)).trans K2D.out)
  have F8 : Hid (Frm D.F w w8) := Lib.hid (FD.out.trans (hf8.mono (F' := D.F) (fun j _ e => .inr (.inr (.inr (.inr (.inr (.inr e))))))) (fun _ _ h => h))
  have I8 : Hid (RowR irec w8 I6 m6 (S.bul.lets x.id)) := Lib.hid (ID.out.frm hf8 (fun b off e hb => by have h1 := I6F.out b off e; have e' : b = D.cm := hb; have := NCM.out; have := S5.out; omega))
  obtain ⟨_, d8, _⟩ := dobj_conf hd8.blk
  clear hwd hr8 hd8 hf8 H6 KC6 KR6 K6 B6 F6 I6R
  refine region_tail 6 (by kernel_rfl) (by kernel_rfl) ?_
  simp only [List.take_succ_cons, List.take_zero, List.drop_succ_cons, List.drop_zero]
  rw [HWD.out]
  repeat still_step
  try (refine wpStill_run rfl (callV A n e M m d x.k) (HKL.out _ _ rfl rfl) ?_)
  refine wpStill_nil ?_
  go_wp2_with (first
    | (go_at_call 132; refine (set_any (g + 2) g (.slice none 0 0) [] x.id now c.timeout w8 (resN_new K8.out (by omega)) (by decide) (by have := heap_lt K8.out; omega) (by omega) (by omega) hcf.timeout.1 hcf.timeout.2).mono ?_; rintro r w9 ⟨rfl, r9, f9⟩;
       obtain ⟨v9, r9⟩ := r9; have R9 := Lib.hid r9;
       have RF9 : ∀ j, RF (g + 2) (.slice none 0 0) j → j = g + 2 := fun j hj => by (rcases hj with hj | hj; exact hj; cases hj);
       have H9 := Lib.hid (H8.out.resF (resN_new K8.out (Nat.le_refl (g + 2))) f9 (fun j hj => .inr (by rw [RF9 j hj]; omega)));
       have KR9 := Lib.hid ((f9.block (g + 1) (heap_lt KR8.out) (fun e => by have := RF9 _ e; omega)).trans KR8.out);
       have F9 : Hid (Frm D.F w w9) := Lib.hid (F8.out.trans f9 (fun j hj e => by have := RF9 _ e; exfalso; omega));
       have I9 : Hid (RowR irec w9 I6 m6 (S.bul.lets x.id)) := Lib.hid (I8.out.frm f9 (fun b off e hb => by have h1 := I6F.out b off e; have := RF9 _ hb; have := S5.out; omega));
       clear r9 f9 d8 RF9 c21)
    | (go_at_call 78; refine (run_any D (NU N w) c ((((S.askB now).pr_ x.id).bulB (S.bul.adm x.id)).put x) I6 m6 z6 (S.bul.lets x.id) w9 H9.out I9.out (fun z hz => ⟨(show (((S.askB now).pr_ x.id).bulB (S.bul.adm x.id)).Has z from HWT.out z (BU.lets_wait hz)).put HX.out.1 HX.out.2, S.bul_ww H.out hz⟩) (Nat.lt_of_le_of_lt (put_le _ x) HL.out) (by rw [← I9.out.1]; exact Nat.le_trans (lets_len _ _) (by decide))).mono ?_; rintro r w11 ⟨rfl, h11, f11⟩;
       have H11 := Lib.hid h11;
       have R11 : Hid (ResN w11 (g + 2) g v9 ([] ++ [⟨true, x.id, addS now c.timeout⟩])) := Lib.hid (R9.out.frm f11 (fun j e => by have e' : j = D.cm := e; rw [e']; exact NCM.out));
       obtain ⟨A11, n11, e11, P11, q11, p11, ev11, eo11, ra11, ro11, fa11, fo11⟩ := R11.out.done.val; injection eo11 with o1 o2 o3; subst ev11 o1 o2 o3;
       have RA11 := Lib.hid ra11; have FA11 := Lib.hid fa11;
       have KR11 := Lib.hid ((f11.block (g + 1) (heap_lt KR9.out) (fun e => by have e' : g + 1 = D.cm := e; have := NCM.out; omega)).trans KR9.out);
       have F11 : Hid (Frm D.F w w11) := Lib.hid (F9.out.trans (f11.mono (F' := D.F) (fun j _ e => .inr (.inr (.inr (.inr (.inr (.inr e))))))) (fun _ _ h => h));
       have S11 : Hid (w.heap.size ≤ w9.heap.size ∧ g + 2 < w9.heap.size) := Lib.hid ⟨F9.out.size, heap_lt R9.out.blk⟩;
       clear h11 f11 ra11 ro11 fa11 fo11 R9 KR9 I9)
    | (refine wpList_load_agg rfl 57 _ rfl (g + 2) rfl [.slice A11 n11 e11, .slice none 0 0] ?hz _ HUR.out rfl sizeRs ?_; (case hz => exact R11.out.blk))
    | (refine wpList_store_agg rfl 57 _ _ rfl (g + 1) [.slice none 0 0, .slice none 0 0] [.slice A11 n11 e11, .slice none 0 0] rfl rfl ?hz rfl sizeRs (onesRs _ _ _ _ _ _) ?_; (case hz => exact KR11.out); intro w12 k12 f12 _;
       have K12 := Lib.hid k12; have F12 := Lib.hid f12; clear k12 f12))
  refine bodyPost_ret (v := .agg #[.slice A11 n11 e11, .slice none 0 0]) (results_agg Tryz.results74 rfl (loadRs K12.out)) rfl ?_
  rw [HE.out]
  refine ⟨⟨_, rfl, by rw [hg]; exact ResV.cell RA11.out (RowR.nil _) FA11.out (Fresh.none _) KR11.out F12.out⟩, ?_, F11.out.trans F12.out (fun j hj e => by have e' : j = g + 1 := e; exfalso; omega)⟩
  have h12 : DepM w12 D (NB (NU N w) w9) c _ := H11.out.frm1 F12.out ⟨.inr (by omega), by have := S11.out; omega⟩ (ty_cells KR11.out) (by decide) (by decide) (by decide) (by decide) (by decide) (by decide) (by decide)
  exact h12.grow (fun j hj => .inl ⟨.inl hj.1, Nat.lt_of_lt_of_le hj.2 S11.out.1⟩) (fun j hj => ⟨H.out.inN j hj, H.out.old hj⟩)

set_option maxHeartbeats 8000000 in
theorem enter_rc (D : DB) (N : Nat → Prop) (c : Cnf) (S : DS) (x : CL) (A : Option Addr) (n e : Nat) (M : Option Addr) (m d : Nat) (now : Nat) (w : World)
    (h : DepM w D N c S) (hb : Bat w A n e M m d x.zs x.ms) (ho : OffB N A n M m) (hl : S.cs.length + 1 < maxLen) (hn : n ≤ 1000) (hm : m ≤ 1000) (hcf : c.Fits) (hch : c.chain ≤ 3) (hbk : S.brk.Fits) (hw : ∀ z ∈ S.bul.wait, S.Has z)
    (hsp : 0 ≤ x.k.sp ∧ x.k.sp ≤ 3) (hnow : now ≤ 18446744073709551615) (ha : S.brk.asked now = 1) (ht : S.bul.tells x.id = 3) :
    Calls Tryz.prog 74 #[ptr D.db, .int .u64 now, callV A n e M m d x.k] w fun r w' => (∃ rv, r = .returned rv ∧ ResV w' w.heap.size rv (S.enter c now x).acts (S.enter c now x).outs) ∧ DepM w' D (NB N w) c (S.enter c now x).S ∧ Frm D.F w w' := by
  obtain ⟨g, hg⟩ : ∃ g, w.heap.size = g := ⟨_, rfl⟩
  obtain ⟨fs, hu⟩ := undCL
  have HU := Lib.hid hu
  obtain ⟨fr, hur⟩ := undRs
  have HUR := Lib.hid hur
  have H := Lib.hid h
  have HB := Lib.hid hb
  have HO := Lib.hid ho
  have HL := Lib.hid hl
  have HBK := Lib.hid hbk
  have HWT := Lib.hid hw
  have HX : Hid (x.zs.length ≤ 1000 ∧ x.ms.length ≤ 1000) := Lib.hid ⟨by rw [hb.alen]; exact hn, by rw [hb.mlen]; exact hm⟩
  have HID : Hid (wf64 x.id) := Lib.hid (lead_wf hb)
  have OLD : Hid (∀ j, D.F j → j < g) := Lib.hid (fun j hj => by rw [← hg]; exact h.old hj)
  have e3 : (S.brk.asked now == 3) = false := by simp [ha]
  have e2 : (S.brk.asked now == 2) = false := by simp [ha]
  have t3 : (S.bul.tells x.id == 3) = true := by simp [ht]
  have hT : (S.askB now).prob (S.brk.asked now) x.id = (S.askB now) := by unfold DS.prob; rw [if_neg (by omega)]
  have hE : S.enter c now x = ((S.askB now).bulB (S.bul.adm x.id)).refused c now x := by unfold DS.enter; dsimp only; rw [hT, if_neg (by omega), if_pos (show (S.askB now).bul.tells x.id = 3 from ht)]; rfl
  obtain ⟨R, hR⟩ : ∃ R, S.enter c now x = R := ⟨_, rfl⟩
  rw [hR] at hE ⊢
  have HE := Lib.hid hE
  clear hR hE h hb ho hl hu hur hbk hw
  unfold ptr
  go_enter Tryz.func74, Tryz.ntmps74
  go_wp2_with (first
    | (refine wpList_box_agg rfl 135 _ rfl g hg (kvals A n e M m d x.k) rfl ?_; intro w0 k0 l0 s0;
       have K0 := Lib.hid k0; have L0 : Hid (Below w.heap.size w w0) := Lib.hid (by rw [hg]; exact l0); clear k0 l0)
    | (refine wpList_alloc_agg rfl 57 rfl (g + 1) s0 [.slice none 0 0, .slice none 0 0] (allocRs _) ?_; intro w1 k1 l1 s1; clear s0;
       have K1 := Lib.hid k1; have KC1 := Lib.hid ((l1.block g (by omega)).trans K0.out); have L1 : Hid (Below w.heap.size w w1) := Lib.hid (L0.out.trans (l1.mono (by omega))); clear k1 l1)
    | (refine wpList_alloc_agg rfl 57 rfl (g + 2) s1 [.slice none 0 0, .slice none 0 0] (allocRs _) ?_; intro w2 k2 l2 s2; clear s1;
       have K2 := Lib.hid k2; have KC2 := Lib.hid ((l2.block g (by omega)).trans KC1.out); have KR2 := Lib.hid ((l2.block (g + 1) (by omega)).trans K1.out); have L2 : Hid (Below w.heap.size w w2) := Lib.hid (L1.out.trans (l2.mono (by omega))); clear k2 l2 s2;
       have q0 : w2.cell? ⟨g, 0, none⟩ = some (.slice A n e) := vobj_cell KC2.out rfl; have q1 : w2.cell? ⟨g, 1, none⟩ = some (.slice M m d) := vobj_cell KC2.out rfl)
    | (go_at_call 73; refine (blead_any A n e M m d x.zs x.ms w2 (HB.out.below L2.out)).mono ?_; rintro r w3 ⟨rfl, l3⟩;
       have L3 : Hid (Below w.heap.size w w3) := Lib.hid (L2.out.trans (l3.mono L2.out.size));
       have KC3 := Lib.hid (kb_below KC2.out l3); have KR3 := Lib.hid (kb_below KR2.out l3); have K3 := Lib.hid (kb_below K2.out l3); clear q0 q1 l3;
       have H3 : Hid (DepM w3 D (NU N w) c S) := Lib.hid (H.out.nu.below L3.out);
       obtain ⟨c0, _, _, _, _, _, _⟩ := dobj_cells H3.out.blk)
    | (go_at_call 134; refine (ask_brk D.kb now _ w3 H3.out.brk HBK.out ⟨by omega, by omega⟩).mono ?_; rintro r w4 ⟨rfl, x4, f4⟩;
       have H4 : Hid (DepM w4 D (NU N w) c (S.askB now)) := Lib.hid (H3.out.brk1 f4 x4);
       have KC4 := Lib.hid ((f4.block g (heap_lt KC3.out) (fun e => by have := OLD.out _ (.inr (.inl rfl) : D.F D.kb); have e' : g = D.kb := e; omega)).trans KC3.out);
       have KR4 := Lib.hid ((f4.block (g + 1) (heap_lt KR3.out) (fun e => by have := OLD.out _ (.inr (.inl rfl) : D.F D.kb); have e' : g + 1 = D.kb := e; omega)).trans KR3.out);
       have K4 := Lib.hid ((f4.block (g + 2) (heap_lt K3.out) (fun e => by have := OLD.out _ (.inr (.inl rfl) : D.F D.kb); have e' : g + 2 = D.kb := e; omega)).trans K3.out);
       have F4 : Hid (Frm D.F w w4) := Lib.hid ((Frm.of_below L3.out).trans (f4.mono (F' := D.F) (fun j _ e => .inr (.inl e))) (fun _ _ h => h));
       have B4 : Hid (Bat w4 A n e M m d x.zs x.ms) := Lib.hid (HB.out.frm F4.out (HO.out.mono (fun j hj => H.out.inN j hj)));
       clear c0 x4 f4;
       obtain ⟨c0, c1, c18, _, _, c21, _⟩ := dobj_cells H4.out.blk; obtain ⟨_, c8, _⟩ := dobj_conf H4.out.blk)
    | (go_at_call 135; refine (admit_bul D.ub D.f S.bul x.id w4 H4.out.bul HID.out).mono ?_; rintro r w6 ⟨v6, rfl, i6, x6, f6⟩;
       obtain ⟨I6, m6, z6, rfl, hI6, hI6n, _, _⟩ := own_row' i6; have I6R := Lib.hid (row_rowR hI6 hI6n.out); have I6F : Hid (Fresh w4.heap.size I6) := Lib.hid (fun b off e => i6.low b (by rw [e]; rfl));
       have H6 : Hid (DepM w6 D (NU N w) c ((S.askB now).bulB (S.bul.adm x.id))) := Lib.hid (H4.out.bul1 f6 x6);
       have KC6 := Lib.hid ((f6.block g (heap_lt KC4.out) (fun e => by have := OLD.out _ (.inr (.inr (.inl e)) : D.F g); omega)).trans KC4.out);
       have KR6 := Lib.hid ((f6.block (g + 1) (heap_lt KR4.out) (fun e => by have := OLD.out _ (.inr (.inr (.inl e)) : D.F (g + 1)); omega)).trans KR4.out);
       have K6 := Lib.hid ((f6.block (g + 2) (heap_lt K4.out) (fun e => by have := OLD.out _ (.inr (.inr (.inl e)) : D.F (g + 2)); omega)).trans K4.out);
       have F6 : Hid (Frm D.F w w6) := Lib.hid (F4.out.trans (f6.mono (F' := D.F) (fun j _ e => .inr (.inr (.inl e)))) (fun _ _ h => h));
       have B6 : Hid (Bat w6 A n e M m d x.zs x.ms) := Lib.hid (HB.out.frm F6.out (HO.out.mono (fun j hj => H.out.inN j hj)));
       have S5 : Hid (w.heap.size ≤ w4.heap.size ∧ g + 2 < w4.heap.size) := Lib.hid ⟨F4.out.size, heap_lt K4.out⟩;
       clear i6 x6 f6 hI6 hI6n c1)
    | (refine wpList_load_agg rfl 135 _ rfl g rfl (kvals A n e M m d x.k) ?hz _ HU.out rfl sizeCL ?_; (case hz => exact KC6.out))
    | (go_at_call 136; refine (refuse_any D (NU N w) c _ x A n e M m d (g + 2) g (.slice none 0 0) [] now w6 H6.out B6.out (Nat.lt_of_succ_lt HL.out) (resN_new K6.out (by omega)) (fun j hj => by rcases hj with rfl | hj; exact .inr (by omega); cases hj) hn hm OLD.out (by decide) hcf hch hsp hnow (HB.out.off_new HO.out (fun j hj => hj))).mono ?_; rintro r w8 ⟨rfl, h8, r8, f8⟩;
       obtain ⟨v8, o8, rd8⟩ := r8; obtain ⟨A8, n8, e8, P8, q8, p8, rfl, rfl, ra8, ro8, fa8, fo8⟩ := rd8.val;
       have H8 := Lib.hid h8; have RD8 := Lib.hid rd8; have RA8 := Lib.hid ra8; have RO8 := Lib.hid ro8; have FA8 := Lib.hid fa8; have FO8 := Lib.hid fo8;
       have KR8 : Hid (w8.heap[g + 1]? = some (resO (.slice none 0 0) (.slice none 0 0))) := Lib.hid ((f8.block (g + 1) (heap_lt KR6.out) (fun hc => by rcases hc with hc | hc | hc; (have := OLD.out _ hc; omega); (have e' : g + 1 = g + 2 := hc; omega); cases hc)).trans KR6.out);
       have F8 : Hid (Frm D.F w w8) := Lib.hid (F6.out.trans f8 (fun j hj hc => by rcases hc with hc | hc | hc; exact hc; (have e' : j = g + 2 := hc; exfalso; omega); cases hc)); clear h8 rd8 ra8 ro8 fa8 fo8 f8)
    | (refine wpList_load_agg rfl 57 _ rfl (g + 2) rfl [.slice A8 n8 e8, .slice P8 q8 p8] ?hz _ HUR.out rfl sizeRs ?_; (case hz => exact RD8.out.blk))
    | (refine wpList_store_agg rfl 57 _ _ rfl (g + 1) [.slice none 0 0, .slice none 0 0] [.slice A8 n8 e8, .slice P8 q8 p8] rfl rfl ?hz rfl sizeRs (onesRs _ _ _ _ _ _) ?_; (case hz => exact KR8.out); intro w9 k9 f9 _;
       have K9 := Lib.hid k9; have F9 := Lib.hid f9; clear k9 f9))
  refine bodyPost_ret (v := .agg #[.slice A8 n8 e8, .slice P8 q8 p8]) (results_agg Tryz.results74 rfl (loadRs K9.out)) rfl ?_
  rw [HE.out]
  refine ⟨⟨_, rfl, by rw [hg]; exact ResV.cell RA8.out RO8.out FA8.out FO8.out KR8.out F9.out⟩, ?_, F8.out.trans F9.out (fun j hj e => by have e' : j = g + 1 := e; exfalso; omega)⟩
  have h9 : DepM w9 D (NB (NU N w) w6) c _ := H8.out.frm1 F9.out ⟨.inr (by omega), heap_lt KR6.out⟩ (ty_cells KR8.out) (by decide) (by decide) (by decide) (by decide) (by decide) (by decide) (by decide)
  exact H.out.back h9 F6.out.size

set_option maxHeartbeats 8000000 in
theorem enter_ic (D : DB) (N : Nat → Prop) (c : Cnf) (S : DS) (x : CL) (A : Option Addr) (n e : Nat) (M : Option Addr) (m d : Nat) (now : Nat) (w : World)
    (h : DepM w D N c S) (hb : Bat w A n e M m d x.zs x.ms) (ho : OffB N A n M m) (hl : S.cs.length + 1 < maxLen) (hn : n ≤ 1000) (hm : m ≤ 1000) (hcf : c.Fits) (hch : c.chain ≤ 3) (hbk : S.brk.Fits) (hw : ∀ z ∈ S.bul.wait, S.Has z)
    (hsp : 0 ≤ x.k.sp ∧ x.k.sp ≤ 3) (hnow : now ≤ 18446744073709551615) (ha : S.brk.asked now = 1) (ht : S.bul.tells x.id = 1) :
    Calls Tryz.prog 74 #[ptr D.db, .int .u64 now, callV A n e M m d x.k] w fun r w' => (∃ rv, r = .returned rv ∧ ResV w' w.heap.size rv (S.enter c now x).acts (S.enter c now x).outs) ∧ DepM w' D (NB N w) c (S.enter c now x).S ∧ Frm D.F w w' := by
  obtain ⟨g, hg⟩ : ∃ g, w.heap.size = g := ⟨_, rfl⟩
  obtain ⟨fs, hu⟩ := undCL
  have HU := Lib.hid hu
  obtain ⟨fr, hur⟩ := undRs
  have HUR := Lib.hid hur
  have H := Lib.hid h
  have HB := Lib.hid hb
  have HO := Lib.hid ho
  have HL := Lib.hid hl
  have HBK := Lib.hid hbk
  have HWT := Lib.hid hw
  have HX : Hid (x.zs.length ≤ 1000 ∧ x.ms.length ≤ 1000) := Lib.hid ⟨by rw [hb.alen]; exact hn, by rw [hb.mlen]; exact hm⟩
  have HID : Hid (wf64 x.id) := Lib.hid (lead_wf hb)
  have OLD : Hid (∀ j, D.F j → j < g) := Lib.hid (fun j hj => by rw [← hg]; exact h.old hj)
  have e3 : (S.brk.asked now == 3) = false := by simp [ha]
  have e2 : (S.brk.asked now == 2) = false := by simp [ha]
  have t3 : (S.bul.tells x.id == 3) = false := by simp [ht]
  have t1 : (S.bul.tells x.id == 1) = true := by simp [ht]
  have hT : (S.askB now).prob (S.brk.asked now) x.id = (S.askB now) := by unfold DS.prob; rw [if_neg (by omega)]
  have hE : S.enter c now x = ⟨((((S.askB now).bulB (S.bul.adm x.id)).put x).run1 x.id).runL (S.bul.lets x.id), [⟨true, x.id, addS now c.timeout⟩], [], 0⟩ := by unfold DS.enter; dsimp only; rw [hT, if_neg (by omega), if_neg (show ¬ (S.askB now).bul.tells x.id = 3 by show ¬ S.bul.tells x.id = 3; omega), if_pos (show (S.askB now).bul.tells x.id = 1 by show S.bul.tells x.id = 1; omega)]; rfl
  obtain ⟨R, hR⟩ : ∃ R, S.enter c now x = R := ⟨_, rfl⟩
  rw [hR] at hE ⊢
  have HE := Lib.hid hE
  clear hR hE h hb ho hl hu hur hbk hw
  unfold ptr
  go_enter Tryz.func74, Tryz.ntmps74
  go_wp2_with (first
    | (refine wpList_box_agg rfl 135 _ rfl g hg (kvals A n e M m d x.k) rfl ?_; intro w0 k0 l0 s0;
       have K0 := Lib.hid k0; have L0 : Hid (Below w.heap.size w w0) := Lib.hid (by rw [hg]; exact l0); clear k0 l0)
    | (refine wpList_alloc_agg rfl 57 rfl (g + 1) s0 [.slice none 0 0, .slice none 0 0] (allocRs _) ?_; intro w1 k1 l1 s1; clear s0;
       have K1 := Lib.hid k1; have KC1 := Lib.hid ((l1.block g (by omega)).trans K0.out); have L1 : Hid (Below w.heap.size w w1) := Lib.hid (L0.out.trans (l1.mono (by omega))); clear k1 l1)
    | (refine wpList_alloc_agg rfl 57 rfl (g + 2) s1 [.slice none 0 0, .slice none 0 0] (allocRs _) ?_; intro w2 k2 l2 s2; clear s1;
       have K2 := Lib.hid k2; have KC2 := Lib.hid ((l2.block g (by omega)).trans KC1.out); have KR2 := Lib.hid ((l2.block (g + 1) (by omega)).trans K1.out); have L2 : Hid (Below w.heap.size w w2) := Lib.hid (L1.out.trans (l2.mono (by omega))); clear k2 l2 s2;
       have q0 : w2.cell? ⟨g, 0, none⟩ = some (.slice A n e) := vobj_cell KC2.out rfl; have q1 : w2.cell? ⟨g, 1, none⟩ = some (.slice M m d) := vobj_cell KC2.out rfl)
    | (go_at_call 73; refine (blead_any A n e M m d x.zs x.ms w2 (HB.out.below L2.out)).mono ?_; rintro r w3 ⟨rfl, l3⟩;
       have L3 : Hid (Below w.heap.size w w3) := Lib.hid (L2.out.trans (l3.mono L2.out.size));
       have KC3 := Lib.hid (kb_below KC2.out l3); have KR3 := Lib.hid (kb_below KR2.out l3); have K3 := Lib.hid (kb_below K2.out l3); clear q0 q1 l3;
       have H3 : Hid (DepM w3 D (NU N w) c S) := Lib.hid (H.out.nu.below L3.out);
       obtain ⟨c0, _, _, _, _, _, _⟩ := dobj_cells H3.out.blk)
    | (go_at_call 134; refine (ask_brk D.kb now _ w3 H3.out.brk HBK.out ⟨by omega, by omega⟩).mono ?_; rintro r w4 ⟨rfl, x4, f4⟩;
       have H4 : Hid (DepM w4 D (NU N w) c (S.askB now)) := Lib.hid (H3.out.brk1 f4 x4);
       have KC4 := Lib.hid ((f4.block g (heap_lt KC3.out) (fun e => by have := OLD.out _ (.inr (.inl rfl) : D.F D.kb); have e' : g = D.kb := e; omega)).trans KC3.out);
       have KR4 := Lib.hid ((f4.block (g + 1) (heap_lt KR3.out) (fun e => by have := OLD.out _ (.inr (.inl rfl) : D.F D.kb); have e' : g + 1 = D.kb := e; omega)).trans KR3.out);
       have K4 := Lib.hid ((f4.block (g + 2) (heap_lt K3.out) (fun e => by have := OLD.out _ (.inr (.inl rfl) : D.F D.kb); have e' : g + 2 = D.kb := e; omega)).trans K3.out);
       have F4 : Hid (Frm D.F w w4) := Lib.hid ((Frm.of_below L3.out).trans (f4.mono (F' := D.F) (fun j _ e => .inr (.inl e))) (fun _ _ h => h));
       have B4 : Hid (Bat w4 A n e M m d x.zs x.ms) := Lib.hid (HB.out.frm F4.out (HO.out.mono (fun j hj => H.out.inN j hj)));
       clear c0 x4 f4;
       obtain ⟨c0, c1, c18, _, _, c21, _⟩ := dobj_cells H4.out.blk; obtain ⟨_, c8, _⟩ := dobj_conf H4.out.blk)
    | (go_at_call 135; refine (admit_bul D.ub D.f S.bul x.id w4 H4.out.bul HID.out).mono ?_; rintro r w6 ⟨v6, rfl, i6, x6, f6⟩;
       obtain ⟨I6, m6, z6, rfl, hI6, hI6n, _, _⟩ := own_row' i6; have I6R := Lib.hid (row_rowR hI6 hI6n.out); have I6F : Hid (Fresh w4.heap.size I6) := Lib.hid (fun b off e => i6.low b (by rw [e]; rfl));
       have H6 : Hid (DepM w6 D (NU N w) c ((S.askB now).bulB (S.bul.adm x.id))) := Lib.hid (H4.out.bul1 f6 x6);
       have KC6 := Lib.hid ((f6.block g (heap_lt KC4.out) (fun e => by have := OLD.out _ (.inr (.inr (.inl e)) : D.F g); omega)).trans KC4.out);
       have KR6 := Lib.hid ((f6.block (g + 1) (heap_lt KR4.out) (fun e => by have := OLD.out _ (.inr (.inr (.inl e)) : D.F (g + 1)); omega)).trans KR4.out);
       have K6 := Lib.hid ((f6.block (g + 2) (heap_lt K4.out) (fun e => by have := OLD.out _ (.inr (.inr (.inl e)) : D.F (g + 2)); omega)).trans K4.out);
       have F6 : Hid (Frm D.F w w6) := Lib.hid (F4.out.trans (f6.mono (F' := D.F) (fun j _ e => .inr (.inr (.inl e)))) (fun _ _ h => h));
       have B6 : Hid (Bat w6 A n e M m d x.zs x.ms) := Lib.hid (HB.out.frm F6.out (HO.out.mono (fun j hj => H.out.inN j hj)));
       have S5 : Hid (w.heap.size ≤ w4.heap.size ∧ g + 2 < w4.heap.size) := Lib.hid ⟨F4.out.size, heap_lt K4.out⟩;
       clear i6 x6 f6 hI6 hI6n c1))
  have DD : Hid (DepM w6.drew D (NU N w) c ((S.askB now).bulB (S.bul.adm x.id))) := Lib.hid (H6.out.ali (drew_ali _))
  have KD : Hid (w6.drew.heap[g]? = some (kobj A n e M m d x.k)) := KC6
  have BD : Hid (Bat w6.drew A n e M m d x.zs x.ms) := Lib.hid (B6.out.below (ali_below (drew_ali _)))
  have KRD : Hid (w6.drew.heap[g + 1]? = some (resO (.slice none 0 0) (.slice none 0 0))) := KR6
  have K2D : Hid (w6.drew.heap[g + 2]? = some (resO (.slice none 0 0) (.slice none 0 0))) := K6
  have FD : Hid (Frm D.F w w6.drew) := Lib.hid (F6.out.ali (drew_ali _))
  have ID : Hid (RowR irec w6.drew I6 m6 (S.bul.lets x.id)) := Lib.hid (I6R.out.ali (drew_ali _))
  obtain ⟨wd, hwd⟩ : ∃ wd, w6.drew = wd := ⟨_, rfl⟩
  rw [hwd] at DD KD BD KRD K2D FD ID
  have HWD := Lib.hid hwd
  obtain ⟨_, _, _, _, _, c21, _⟩ := dobj_cells DD.out.blk
  have HKL := Lib.hid (fun (ρ : Operand → Value) (o : Oper) (ho : o.op = .load 135 (.tmp 5)) (hx : ρ (.tmp 5) = .pointer (some ⟨g, 0, none⟩)) => load_call KD.out ρ o ho hx)
  obtain ⟨w8, hr8, hd8, hf8⟩ := DD.out.store (N' := NU N w) BD.out (HB.out.off_new HO.out (fun j hj => hj)) (fun _ h => h) DD.out.inN (Nat.lt_of_succ_lt HL.out)
  have HR8 : (Instr.mapUpdate 112 (.map (some D.cm)) (.int .i64 (leadL x.ms)) (callV A n e M m d x.k)).run Tryz.prog wd = .ok () w8 := hr8
  have H8 := Lib.hid hd8
  have NCM : Hid (D.cm < g) := Lib.hid (OLD.out _ (.inr (.inr (.inr (.inr (.inr (.inr rfl)))))))
  have KR8 := Lib.hid ((hf8.block (g + 1) (heap_lt KRD.out) (fun e => by have e' : g + 1 = D.cm := e; have := NCM.out; omega)).trans KRD.out)
  have K8 := Lib.hid ((hf8.block (g + 2) (heap_lt K2D.out) (fun e => by have e' : g + 2 = D.cm := e; have := NCM.out; omega)).trans K2D.out)
  have F8 : Hid (Frm D.F w w8) := Lib.hid (FD.out.trans (hf8.mono (F' := D.F) (fun j _ e => .inr (.inr (.inr (.inr (.inr (.inr e))))))) (fun _ _ h => h))
  have I8 : Hid (RowR irec w8 I6 m6 (S.bul.lets x.id)) := Lib.hid (ID.out.frm hf8 (fun b off e hb => by have h1 := I6F.out b off e; have e' : b = D.cm := hb; have := NCM.out; have := S5.out; omega))
  obtain ⟨_, d8, _⟩ := dobj_conf hd8.blk
  clear hwd hr8 hd8 hf8 H6 KC6 KR6 K6 B6 F6 I6R
  refine region_tail 6 (by kernel_rfl) (by kernel_rfl) ?_
  simp only [List.take_succ_cons, List.take_zero, List.drop_succ_cons, List.drop_zero]
  rw [HWD.out]
  repeat still_step
  try (refine wpStill_run rfl (callV A n e M m d x.k) (HKL.out _ _ rfl rfl) ?_)
  refine wpStill_nil ?_
  go_wp2_with (first
    | (go_at_call 132; refine (set_any (g + 2) g (.slice none 0 0) [] x.id now c.timeout w8 (resN_new K8.out (by omega)) (by decide) (by have := heap_lt K8.out; omega) (by omega) (by omega) hcf.timeout.1 hcf.timeout.2).mono ?_; rintro r w9 ⟨rfl, r9, f9⟩;
       obtain ⟨v9, r9⟩ := r9; have R9 := Lib.hid r9;
       have RF9 : ∀ j, RF (g + 2) (.slice none 0 0) j → j = g + 2 := fun j hj => by (rcases hj with hj | hj; exact hj; cases hj);
       have H9 := Lib.hid (H8.out.resF (resN_new K8.out (Nat.le_refl (g + 2))) f9 (fun j hj => .inr (by rw [RF9 j hj]; omega)));
       have KR9 := Lib.hid ((f9.block (g + 1) (heap_lt KR8.out) (fun e => by have := RF9 _ e; omega)).trans KR8.out);
       have F9 : Hid (Frm D.F w w9) := Lib.hid (F8.out.trans f9 (fun j hj e => by have := RF9 _ e; exfalso; omega));
       have I9 : Hid (RowR irec w9 I6 m6 (S.bul.lets x.id)) := Lib.hid (I8.out.frm f9 (fun b off e hb => by have h1 := I6F.out b off e; have := RF9 _ hb; have := S5.out; omega));
       clear r9 f9 d8 RF9 c21)
    | (go_at_call 78; refine (run_any D (NU N w) c _ (some ⟨w9.heap.size, 0, none⟩) 1 1 [x.id] _ (H9.out.below (below_alloc w9 _)) (RowR.one (R := irec) w9 x.id 3 (cs := #[.int .i64 x.id]) rfl) (fun z hz => by rw [List.mem_singleton] at hz; subst hz; exact ⟨DS.Has.put_self _ HX.out.1 HX.out.2, HID.out⟩) (Nat.lt_of_le_of_lt (put_le _ x) HL.out) (by decide)).mono ?_; rintro r w10 ⟨rfl, h10, f10⟩;
       have SZ : Hid (w9.heap.size ≤ (w9.alloc (.cells #[.int .i64 x.id] 3)).heap.size) := Lib.hid (below_alloc w9 _).size;
       have H10 : Hid (DepM w10 D (NB (NU N w) w9) c ((((S.askB now).bulB (S.bul.adm x.id)).put x).run1 x.id)) := Lib.hid (h10.grow (fun j hj => .inl ⟨hj.1, Nat.lt_of_lt_of_le hj.2 SZ.out⟩) (fun j hj => ⟨H9.out.inN j hj, H9.out.old hj⟩));
       have B10 := below_alloc w9 (.cells #[.int .i64 x.id] 3);
       have R10 : Hid (ResN w10 (g + 2) g v9 ([] ++ [⟨true, x.id, addS now c.timeout⟩])) := Lib.hid ((R9.out.below B10).frm f10 (fun j e => by have e' : j = D.cm := e; rw [e']; exact NCM.out));
       have KR10 := Lib.hid ((f10.block (g + 1) (heap_lt (kb_below KR9.out B10)) (fun e => by have e' : g + 1 = D.cm := e; have := NCM.out; omega)).trans (kb_below KR9.out B10));
       have F10 : Hid (Frm D.F w w10) := Lib.hid ((F9.out.then_below B10).trans (f10.mono (F' := D.F) (fun j _ e => .inr (.inr (.inr (.inr (.inr (.inr e))))))) (fun _ _ h => h));
       have I10 : Hid (RowR irec w10 I6 m6 (S.bul.lets x.id)) := Lib.hid ((I9.out.later B10).frm f10 (fun b off e hb => by have h1 := I6F.out b off e; have e' : b = D.cm := hb; have := NCM.out; have := S5.out; omega));
       have S9 : Hid (w.heap.size ≤ w9.heap.size) := Lib.hid F9.out.size; have S9b : Hid (g + 2 < w9.heap.size) := Lib.hid (heap_lt R9.out.blk);
       clear h10 f10 B10 R9 KR9 H9 F9 I9)
    | (go_at_call 78; refine (run_any D (NB (NU N w) w9) c ((((S.askB now).bulB (S.bul.adm x.id)).put x).run1 x.id) I6 m6 z6 (S.bul.lets x.id) w10 H10.out I10.out (fun z hz => ⟨((show ((S.askB now).bulB (S.bul.adm x.id)).Has z from HWT.out z (BU.lets_wait hz)).put HX.out.1 HX.out.2).run1, S.bul_ww H.out hz⟩) (by rw [DS.run1_len (put_uni H4.out.uni)]; exact Nat.lt_of_le_of_lt (put_le _ x) HL.out) (by rw [← I10.out.1]; exact Nat.le_trans (lets_len _ _) (by decide))).mono ?_; rintro r w11 ⟨rfl, h11, f11⟩;
       have H11 := Lib.hid h11;
       have R11 : Hid (ResN w11 (g + 2) g v9 ([] ++ [⟨true, x.id, addS now c.timeout⟩])) := Lib.hid (R10.out.frm f11 (fun j e => by have e' : j = D.cm := e; rw [e']; exact NCM.out));
       obtain ⟨A11, n11, e11, P11, q11, p11, ev11, eo11, ra11, ro11, fa11, fo11⟩ := R11.out.done.val; injection eo11 with o1 o2 o3; subst ev11 o1 o2 o3;
       have RA11 := Lib.hid ra11; have FA11 := Lib.hid fa11;
       have KR11 := Lib.hid ((f11.block (g + 1) (heap_lt KR10.out) (fun e => by have e' : g + 1 = D.cm := e; have := NCM.out; omega)).trans KR10.out);
       have F11 : Hid (Frm D.F w w11) := Lib.hid (F10.out.trans (f11.mono (F' := D.F) (fun j _ e => .inr (.inr (.inr (.inr (.inr (.inr e))))))) (fun _ _ h => h));
       have S11 : Hid (w.heap.size ≤ w10.heap.size ∧ g + 2 < w10.heap.size) := Lib.hid ⟨F10.out.size, heap_lt R10.out.blk⟩;
       clear h11 f11 ra11 ro11 fa11 fo11 R10 KR10 I10)
    | (refine wpList_load_agg rfl 57 _ rfl (g + 2) rfl [.slice A11 n11 e11, .slice none 0 0] ?hz _ HUR.out rfl sizeRs ?_; (case hz => exact R11.out.blk))
    | (refine wpList_store_agg rfl 57 _ _ rfl (g + 1) [.slice none 0 0, .slice none 0 0] [.slice A11 n11 e11, .slice none 0 0] rfl rfl ?hz rfl sizeRs (onesRs _ _ _ _ _ _) ?_; (case hz => exact KR11.out); intro w12 k12 f12 _;
       have K12 := Lib.hid k12; have F12 := Lib.hid f12; clear k12 f12))
  refine bodyPost_ret (v := .agg #[.slice A11 n11 e11, .slice none 0 0]) (results_agg Tryz.results74 rfl (loadRs K12.out)) rfl ?_
  rw [HE.out]
  refine ⟨⟨_, rfl, by rw [hg]; exact ResV.cell RA11.out (RowR.nil _) FA11.out (Fresh.none _) KR11.out F12.out⟩, ?_, F11.out.trans F12.out (fun j hj e => by have e' : j = g + 1 := e; exfalso; omega)⟩
  have h12 : DepM w12 D (NB (NB (NU N w) w9) w10) c _ := H11.out.frm1 F12.out ⟨⟨.inr (by omega), by have := S9b.out; omega⟩, by have := S11.out; omega⟩ (ty_cells KR11.out) (by decide) (by decide) (by decide) (by decide) (by decide) (by decide) (by decide)
  exact h12.grow (fun j hj => .inl ⟨⟨.inl hj.1, Nat.lt_of_lt_of_le hj.2 S9.out⟩, Nat.lt_of_lt_of_le hj.2 S11.out.1⟩) (fun j hj => ⟨H.out.inN j hj, H.out.old hj⟩)

set_option maxHeartbeats 8000000 in
theorem enter_wc (D : DB) (N : Nat → Prop) (c : Cnf) (S : DS) (x : CL) (A : Option Addr) (n e : Nat) (M : Option Addr) (m d : Nat) (now : Nat) (w : World)
    (h : DepM w D N c S) (hb : Bat w A n e M m d x.zs x.ms) (ho : OffB N A n M m) (hl : S.cs.length + 1 < maxLen) (hn : n ≤ 1000) (hm : m ≤ 1000) (hcf : c.Fits) (hch : c.chain ≤ 3) (hbk : S.brk.Fits) (hw : ∀ z ∈ S.bul.wait, S.Has z)
    (hsp : 0 ≤ x.k.sp ∧ x.k.sp ≤ 3) (hnow : now ≤ 18446744073709551615) (ha : S.brk.asked now = 1) (ht : S.bul.tells x.id = 2) :
    Calls Tryz.prog 74 #[ptr D.db, .int .u64 now, callV A n e M m d x.k] w fun r w' => (∃ rv, r = .returned rv ∧ ResV w' w.heap.size rv (S.enter c now x).acts (S.enter c now x).outs) ∧ DepM w' D (NB N w) c (S.enter c now x).S ∧ Frm D.F w w' := by
  obtain ⟨g, hg⟩ : ∃ g, w.heap.size = g := ⟨_, rfl⟩
  obtain ⟨fs, hu⟩ := undCL
  have HU := Lib.hid hu
  obtain ⟨fr, hur⟩ := undRs
  have HUR := Lib.hid hur
  have H := Lib.hid h
  have HB := Lib.hid hb
  have HO := Lib.hid ho
  have HL := Lib.hid hl
  have HBK := Lib.hid hbk
  have HWT := Lib.hid hw
  have HX : Hid (x.zs.length ≤ 1000 ∧ x.ms.length ≤ 1000) := Lib.hid ⟨by rw [hb.alen]; exact hn, by rw [hb.mlen]; exact hm⟩
  have HID : Hid (wf64 x.id) := Lib.hid (lead_wf hb)
  have OLD : Hid (∀ j, D.F j → j < g) := Lib.hid (fun j hj => by rw [← hg]; exact h.old hj)
  have e3 : (S.brk.asked now == 3) = false := by simp [ha]
  have e2 : (S.brk.asked now == 2) = false := by simp [ha]
  have t3 : (S.bul.tells x.id == 3) = false := by simp [ht]
  have t1 : (S.bul.tells x.id == 1) = false := by simp [ht]
  have hT : (S.askB now).prob (S.brk.asked now) x.id = (S.askB now) := by unfold DS.prob; rw [if_neg (by omega)]
  have hE : S.enter c now x = ⟨(((S.askB now).bulB (S.bul.adm x.id)).put x).runL (S.bul.lets x.id), [⟨true, x.id, addS now c.timeout⟩], [], 0⟩ := by unfold DS.enter; dsimp only; rw [hT, if_neg (by omega), if_neg (show ¬ (S.askB now).bul.tells x.id = 3 by show ¬ S.bul.tells x.id = 3; omega), if_neg (show ¬ (S.askB now).bul.tells x.id = 1 by show ¬ S.bul.tells x.id = 1; omega)]; rfl
  obtain ⟨R, hR⟩ : ∃ R, S.enter c now x = R := ⟨_, rfl⟩
  rw [hR] at hE ⊢
  have HE := Lib.hid hE
  clear hR hE h hb ho hl hu hur hbk hw
  unfold ptr
  go_enter Tryz.func74, Tryz.ntmps74
  go_wp2_with (first
    | (refine wpList_box_agg rfl 135 _ rfl g hg (kvals A n e M m d x.k) rfl ?_; intro w0 k0 l0 s0;
       have K0 := Lib.hid k0; have L0 : Hid (Below w.heap.size w w0) := Lib.hid (by rw [hg]; exact l0); clear k0 l0)
    | (refine wpList_alloc_agg rfl 57 rfl (g + 1) s0 [.slice none 0 0, .slice none 0 0] (allocRs _) ?_; intro w1 k1 l1 s1; clear s0;
       have K1 := Lib.hid k1; have KC1 := Lib.hid ((l1.block g (by omega)).trans K0.out); have L1 : Hid (Below w.heap.size w w1) := Lib.hid (L0.out.trans (l1.mono (by omega))); clear k1 l1)
    | (refine wpList_alloc_agg rfl 57 rfl (g + 2) s1 [.slice none 0 0, .slice none 0 0] (allocRs _) ?_; intro w2 k2 l2 s2; clear s1;
       have K2 := Lib.hid k2; have KC2 := Lib.hid ((l2.block g (by omega)).trans KC1.out); have KR2 := Lib.hid ((l2.block (g + 1) (by omega)).trans K1.out); have L2 : Hid (Below w.heap.size w w2) := Lib.hid (L1.out.trans (l2.mono (by omega))); clear k2 l2 s2;
       have q0 : w2.cell? ⟨g, 0, none⟩ = some (.slice A n e) := vobj_cell KC2.out rfl; have q1 : w2.cell? ⟨g, 1, none⟩ = some (.slice M m d) := vobj_cell KC2.out rfl)
    | (go_at_call 73; refine (blead_any A n e M m d x.zs x.ms w2 (HB.out.below L2.out)).mono ?_; rintro r w3 ⟨rfl, l3⟩;
       have L3 : Hid (Below w.heap.size w w3) := Lib.hid (L2.out.trans (l3.mono L2.out.size));
       have KC3 := Lib.hid (kb_below KC2.out l3); have KR3 := Lib.hid (kb_below KR2.out l3); have K3 := Lib.hid (kb_below K2.out l3); clear q0 q1 l3;
       have H3 : Hid (DepM w3 D (NU N w) c S) := Lib.hid (H.out.nu.below L3.out);
       obtain ⟨c0, _, _, _, _, _, _⟩ := dobj_cells H3.out.blk)
    | (go_at_call 134; refine (ask_brk D.kb now _ w3 H3.out.brk HBK.out ⟨by omega, by omega⟩).mono ?_; rintro r w4 ⟨rfl, x4, f4⟩;
       have H4 : Hid (DepM w4 D (NU N w) c (S.askB now)) := Lib.hid (H3.out.brk1 f4 x4);
       have KC4 := Lib.hid ((f4.block g (heap_lt KC3.out) (fun e => by have := OLD.out _ (.inr (.inl rfl) : D.F D.kb); have e' : g = D.kb := e; omega)).trans KC3.out);
       have KR4 := Lib.hid ((f4.block (g + 1) (heap_lt KR3.out) (fun e => by have := OLD.out _ (.inr (.inl rfl) : D.F D.kb); have e' : g + 1 = D.kb := e; omega)).trans KR3.out);
       have K4 := Lib.hid ((f4.block (g + 2) (heap_lt K3.out) (fun e => by have := OLD.out _ (.inr (.inl rfl) : D.F D.kb); have e' : g + 2 = D.kb := e; omega)).trans K3.out);
       have F4 : Hid (Frm D.F w w4) := Lib.hid ((Frm.of_below L3.out).trans (f4.mono (F' := D.F) (fun j _ e => .inr (.inl e))) (fun _ _ h => h));
       have B4 : Hid (Bat w4 A n e M m d x.zs x.ms) := Lib.hid (HB.out.frm F4.out (HO.out.mono (fun j hj => H.out.inN j hj)));
       clear c0 x4 f4;
       obtain ⟨c0, c1, c18, _, _, c21, _⟩ := dobj_cells H4.out.blk; obtain ⟨_, c8, _⟩ := dobj_conf H4.out.blk)
    | (go_at_call 135; refine (admit_bul D.ub D.f S.bul x.id w4 H4.out.bul HID.out).mono ?_; rintro r w6 ⟨v6, rfl, i6, x6, f6⟩;
       obtain ⟨I6, m6, z6, rfl, hI6, hI6n, _, _⟩ := own_row' i6; have I6R := Lib.hid (row_rowR hI6 hI6n.out); have I6F : Hid (Fresh w4.heap.size I6) := Lib.hid (fun b off e => i6.low b (by rw [e]; rfl));
       have H6 : Hid (DepM w6 D (NU N w) c ((S.askB now).bulB (S.bul.adm x.id))) := Lib.hid (H4.out.bul1 f6 x6);
       have KC6 := Lib.hid ((f6.block g (heap_lt KC4.out) (fun e => by have := OLD.out _ (.inr (.inr (.inl e)) : D.F g); omega)).trans KC4.out);
       have KR6 := Lib.hid ((f6.block (g + 1) (heap_lt KR4.out) (fun e => by have := OLD.out _ (.inr (.inr (.inl e)) : D.F (g + 1)); omega)).trans KR4.out);
       have K6 := Lib.hid ((f6.block (g + 2) (heap_lt K4.out) (fun e => by have := OLD.out _ (.inr (.inr (.inl e)) : D.F (g + 2)); omega)).trans K4.out);
       have F6 : Hid (Frm D.F w w6) := Lib.hid (F4.out.trans (f6.mono (F' := D.F) (fun j _ e => .inr (.inr (.inl e)))) (fun _ _ h => h));
       have B6 : Hid (Bat w6 A n e M m d x.zs x.ms) := Lib.hid (HB.out.frm F6.out (HO.out.mono (fun j hj => H.out.inN j hj)));
       have S5 : Hid (w.heap.size ≤ w4.heap.size ∧ g + 2 < w4.heap.size) := Lib.hid ⟨F4.out.size, heap_lt K4.out⟩;
       clear i6 x6 f6 hI6 hI6n c1))
  have DD : Hid (DepM w6.drew D (NU N w) c ((S.askB now).bulB (S.bul.adm x.id))) := Lib.hid (H6.out.ali (drew_ali _))
  have KD : Hid (w6.drew.heap[g]? = some (kobj A n e M m d x.k)) := KC6
  have BD : Hid (Bat w6.drew A n e M m d x.zs x.ms) := Lib.hid (B6.out.below (ali_below (drew_ali _)))
  have KRD : Hid (w6.drew.heap[g + 1]? = some (resO (.slice none 0 0) (.slice none 0 0))) := KR6
  have K2D : Hid (w6.drew.heap[g + 2]? = some (resO (.slice none 0 0) (.slice none 0 0))) := K6
  have FD : Hid (Frm D.F w w6.drew) := Lib.hid (F6.out.ali (drew_ali _))
  have ID : Hid (RowR irec w6.drew I6 m6 (S.bul.lets x.id)) := Lib.hid (I6R.out.ali (drew_ali _))
  obtain ⟨wd, hwd⟩ : ∃ wd, w6.drew = wd := ⟨_, rfl⟩
  rw [hwd] at DD KD BD KRD K2D FD ID
  have HWD := Lib.hid hwd
  obtain ⟨_, _, _, _, _, c21, _⟩ := dobj_cells DD.out.blk
  have HKL := Lib.hid (fun (ρ : Operand → Value) (o : Oper) (ho : o.op = .load 135 (.tmp 5)) (hx : ρ (.tmp 5) = .pointer (some ⟨g, 0, none⟩)) => load_call KD.out ρ o ho hx)
  obtain ⟨w8, hr8, hd8, hf8⟩ := DD.out.store (N' := NU N w) BD.out (HB.out.off_new HO.out (fun j hj => hj)) (fun _ h => h) DD.out.inN (Nat.lt_of_succ_lt HL.out)
  have HR8 : (Instr.mapUpdate 112 (.map (some D.cm)) (.int .i64 (leadL x.ms)) (callV A n e M m d x.k)).run Tryz.prog wd = .ok () w8 := hr8
  have H8 := Lib.hid hd8
  have NCM : Hid (D.cm < g) := Lib.hid (OLD.out _ (.inr (.inr (.inr (.inr (.inr (.inr rfl)))))))
  have KR8 := Lib.hid ((hf8.block (g + 1) (heap_lt KRD.out) (fun e => by have e' : g + 1 = D.cm := e; have := NCM.out; omega)).trans KRD.out)
  have K8 := Lib.hid ((hf8.block (g + 2) (heap_lt K2D.out) (fun e => by have e' : g + 2 = D.cm := e; have := NCM.out; omega)).trans K2D.out)
  have F8 : Hid (Frm D.F w w8) := Lib.hid (FD.out.trans (hf8.mono (F' := D.F) (fun j _ e => .inr (.inr (.inr (.inr (.inr (.inr e))))))) (fun _ _ h => h))
  have I8 : Hid (RowR irec w8 I6 m6 (S.bul.lets x.id)) := Lib.hid (ID.out.frm hf8 (fun b off e hb => by have h1 := I6F.out b off e; have e' : b = D.cm := hb; have := NCM.out; have := S5.out; omega))
  obtain ⟨_, d8, _⟩ := dobj_conf hd8.blk
  clear hwd hr8 hd8 hf8 H6 KC6 KR6 K6 B6 F6 I6R
  refine region_tail 6 (by kernel_rfl) (by kernel_rfl) ?_
  simp only [List.take_succ_cons, List.take_zero, List.drop_succ_cons, List.drop_zero]
  rw [HWD.out]
  repeat still_step
  try (refine wpStill_run rfl (callV A n e M m d x.k) (HKL.out _ _ rfl rfl) ?_)
  refine wpStill_nil ?_
  go_wp2_with (first
    | (go_at_call 132; refine (set_any (g + 2) g (.slice none 0 0) [] x.id now c.timeout w8 (resN_new K8.out (by omega)) (by decide) (by have := heap_lt K8.out; omega) (by omega) (by omega) hcf.timeout.1 hcf.timeout.2).mono ?_; rintro r w9 ⟨rfl, r9, f9⟩;
       obtain ⟨v9, r9⟩ := r9; have R9 := Lib.hid r9;
       have RF9 : ∀ j, RF (g + 2) (.slice none 0 0) j → j = g + 2 := fun j hj => by (rcases hj with hj | hj; exact hj; cases hj);
       have H9 := Lib.hid (H8.out.resF (resN_new K8.out (Nat.le_refl (g + 2))) f9 (fun j hj => .inr (by rw [RF9 j hj]; omega)));
       have KR9 := Lib.hid ((f9.block (g + 1) (heap_lt KR8.out) (fun e => by have := RF9 _ e; omega)).trans KR8.out);
       have F9 : Hid (Frm D.F w w9) := Lib.hid (F8.out.trans f9 (fun j hj e => by have := RF9 _ e; exfalso; omega));
       have I9 : Hid (RowR irec w9 I6 m6 (S.bul.lets x.id)) := Lib.hid (I8.out.frm f9 (fun b off e hb => by have h1 := I6F.out b off e; have := RF9 _ hb; have := S5.out; omega));
       clear r9 f9 d8 RF9 c21)
    | (go_at_call 78; refine (run_any D (NU N w) c (((S.askB now).bulB (S.bul.adm x.id)).put x) I6 m6 z6 (S.bul.lets x.id) w9 H9.out I9.out (fun z hz => ⟨(show ((S.askB now).bulB (S.bul.adm x.id)).Has z from HWT.out z (BU.lets_wait hz)).put HX.out.1 HX.out.2, S.bul_ww H.out hz⟩) (Nat.lt_of_le_of_lt (put_le _ x) HL.out) (by rw [← I9.out.1]; exact Nat.le_trans (lets_len _ _) (by decide))).mono ?_; rintro r w11 ⟨rfl, h11, f11⟩;
       have H11 := Lib.hid h11;
       have R11 : Hid (ResN w11 (g + 2) g v9 ([] ++ [⟨true, x.id, addS now c.timeout⟩])) := Lib.hid (R9.out.frm f11 (fun j e => by have e' : j = D.cm := e; rw [e']; exact NCM.out));
       obtain ⟨A11, n11, e11, P11, q11, p11, ev11, eo11, ra11, ro11, fa11, fo11⟩ := R11.out.done.val; injection eo11 with o1 o2 o3; subst ev11 o1 o2 o3;
       have RA11 := Lib.hid ra11; have FA11 := Lib.hid fa11;
       have KR11 := Lib.hid ((f11.block (g + 1) (heap_lt KR9.out) (fun e => by have e' : g + 1 = D.cm := e; have := NCM.out; omega)).trans KR9.out);
       have F11 : Hid (Frm D.F w w11) := Lib.hid (F9.out.trans (f11.mono (F' := D.F) (fun j _ e => .inr (.inr (.inr (.inr (.inr (.inr e))))))) (fun _ _ h => h));
       have S11 : Hid (w.heap.size ≤ w9.heap.size ∧ g + 2 < w9.heap.size) := Lib.hid ⟨F9.out.size, heap_lt R9.out.blk⟩;
       clear h11 f11 ra11 ro11 fa11 fo11 R9 KR9 I9)
    | (refine wpList_load_agg rfl 57 _ rfl (g + 2) rfl [.slice A11 n11 e11, .slice none 0 0] ?hz _ HUR.out rfl sizeRs ?_; (case hz => exact R11.out.blk))
    | (refine wpList_store_agg rfl 57 _ _ rfl (g + 1) [.slice none 0 0, .slice none 0 0] [.slice A11 n11 e11, .slice none 0 0] rfl rfl ?hz rfl sizeRs (onesRs _ _ _ _ _ _) ?_; (case hz => exact KR11.out); intro w12 k12 f12 _;
       have K12 := Lib.hid k12; have F12 := Lib.hid f12; clear k12 f12))
  refine bodyPost_ret (v := .agg #[.slice A11 n11 e11, .slice none 0 0]) (results_agg Tryz.results74 rfl (loadRs K12.out)) rfl ?_
  rw [HE.out]
  refine ⟨⟨_, rfl, by rw [hg]; exact ResV.cell RA11.out (RowR.nil _) FA11.out (Fresh.none _) KR11.out F12.out⟩, ?_, F11.out.trans F12.out (fun j hj e => by have e' : j = g + 1 := e; exfalso; omega)⟩
  have h12 : DepM w12 D (NB (NU N w) w9) c _ := H11.out.frm1 F12.out ⟨.inr (by omega), by have := S11.out; omega⟩ (ty_cells KR11.out) (by decide) (by decide) (by decide) (by decide) (by decide) (by decide) (by decide)
  exact h12.grow (fun j hj => .inl ⟨.inl hj.1, Nat.lt_of_lt_of_le hj.2 S11.out.1⟩) (fun j hj => ⟨H.out.inN j hj, H.out.old hj⟩)

theorem enter_any (D : DB) (N : Nat → Prop) (c : Cnf) (S : DS) (x : CL) (A : Option Addr) (n e : Nat) (M : Option Addr) (m d : Nat) (now : Nat) (w : World)
    (h : DepM w D N c S) (hb : Bat w A n e M m d x.zs x.ms) (ho : OffB N A n M m) (hl : S.cs.length + 1 < maxLen) (hn : n ≤ 1000) (hm : m ≤ 1000) (hcf : c.Fits) (hch : c.chain ≤ 3) (hbk : S.brk.Fits) (hw : ∀ z ∈ S.bul.wait, S.Has z)
    (hsp : 0 ≤ x.k.sp ∧ x.k.sp ≤ 3) (hnow : now ≤ 18446744073709551615) :
    Calls Tryz.prog 74 #[ptr D.db, .int .u64 now, callV A n e M m d x.k] w fun r w' => (∃ rv, r = .returned rv ∧ ResV w' w.heap.size rv (S.enter c now x).acts (S.enter c now x).outs) ∧ DepM w' D (NB N w) c (S.enter c now x).S ∧ Frm D.F w w' := by
  rcases BK.asked_of S.brk now with ha | ha | ha
  · rcases BU.tells_of S.bul x.id with ht | ht | ht
    · exact enter_ic D N c S x A n e M m d now w h hb ho hl hn hm hcf hch hbk hw hsp hnow ha ht
    · exact enter_wc D N c S x A n e M m d now w h hb ho hl hn hm hcf hch hbk hw hsp hnow ha ht
    · exact enter_rc D N c S x A n e M m d now w h hb ho hl hn hm hcf hch hbk hw hsp hnow ha ht
  · rcases BU.tells_of S.bul x.id with ht | ht | ht
    · exact enter_ip D N c S x A n e M m d now w h hb ho hl hn hm hcf hch hbk hw hsp hnow ha ht
    · exact enter_wp D N c S x A n e M m d now w h hb ho hl hn hm hcf hch hbk hw hsp hnow ha ht
    · exact enter_rp D N c S x A n e M m d now w h hb ho hl hn hm hcf hch hbk hw hsp hnow ha ht
  · exact enter_short D N c S x A n e M m d now w h hb ho hl hn hm hcf hch hbk hw hsp hnow ha
end Go.Proofs.YtgnccpmkdgfjeaaGreat

namespace Go.Proofs.YtgnccpmkdgfjeaaGreat
set_option linter.unusedVariables false
set_option maxRecDepth 100000
open Go.ChangeShapes Go.WideShapes Go.ChangeAt Go.RowKit

/-- What a dependency is, as far as its calls ask for it. -/
structure DS.Fine (c : Cnf) (S : DS) : Prop where
  fits : c.Fits
  may : c.May
  brk : S.brk.Fits
  small : ∀ x ∈ S.cs, (x.zs.length ≤ 1000 ∧ x.ms.length ≤ 1000) ∧ (0 ≤ x.k.sp ∧ x.k.sp ≤ 3) ∧ (1 ≤ x.k.st ∧ x.k.st ≤ 4) ∧ (0 ≤ x.k.tm ∧ x.k.tm ≤ 18446744073709551615)
  run : ∀ i ∈ S.bul.run, ∃ x, S.find i = some x
  wait : ∀ i ∈ S.bul.wait, ∃ x, S.find i = some x
  fbk : ∀ h ∈ S.fb, ∃ x, S.find h.1 = some x
  len : S.cs.length ≤ 1000
theorem DS.Fine.chain {c : Cnf} {S : DS} (h : S.Fine c) : c.chain ≤ 3 := h.may.chain.2
theorem DS.Fine.has {c : Cnf} {S : DS} (h : S.Fine c) {z : Int} (hz : z ∈ S.bul.wait) : S.Has z := by
  obtain ⟨x, hx⟩ := h.wait z hz
  exact ⟨x, hx, (h.small x (cfind_some hx).1).1⟩
theorem DS.Fine.max {c : Cnf} {S : DS} (h : S.Fine c) : S.cs.length + 1 < maxLen := by have := h.len; unfold maxLen; omega
/-- What is told of an offer, a pick, an answer: the dependency then, the result, the error. -/
def Told17 (D : DB) (N : Nat → Prop) (c : Cnf) (R : DR) (w : World) (r : Ending) (w' : World) : Prop :=
  (∃ rv, r = .returned (.tuple #[rv, .int .i64 R.er]) ∧ ResV w' w.heap.size rv R.acts R.outs) ∧ DepM w' D (NB N w) c R.S ∧ Frm D.F w w'
theorem DepM.look2 {w w' : World} {D : DB} {N : Nat → Prop} {c : Cnf} {S : DS} (h : DepM w D N c S) {id : Int} (hw : wf64 id) (hq : w'.heap[D.cm]? = w.heap[D.cm]?) :
    ∃ A n e M m d K, (Instr.lookup 112 (.map (some D.cm)) (.int .i64 id) true).run Tryz.prog w' = .ok (.tuple #[callV A n e M m d K, .bool (S.knows id)]) w' := by
  obtain ⟨g, h1, h2⟩ := h.cls
  have h3 := h2 id hw
  have hl := h1.look2 (x := id) hw calls_map (z := callV none 0 0 none 0 0 ⟨0, 0, 0, 0⟩) call_zero hq
  unfold DS.knows DS.find
  cases hf : S.cs.find? (fun y => y.id == id) with
  | none =>
    rw [hf] at h3
    rw [show g id = none from h3] at hl
    exact ⟨none, 0, 0, none, 0, 0, ⟨0, 0, 0, 0⟩, hl⟩
  | some x =>
    rw [hf] at h3
    obtain ⟨A, n, e, M, m, d, hg, _, _⟩ := h3
    rw [hg] at hl
    exact ⟨A, n, e, M, m, d, x.k, hl⟩
theorem allocCl (w : World) : (Instr.alloc 135 true (.tuple #[])).run Tryz.prog w = .ok (.pointer (some ⟨w.heap.size, 0, none⟩)) (w.alloc (kobj none 0 0 none 0 0 ⟨0, 0, 0, 0⟩)) := by kernel_rfl

theorem knows_nil (id : Int) (w : World) : Calls Tryz.prog 20 #[.pointer none, .int .i64 id] w fun r w' => r = .returned (.bool false) ∧ w = w' := by
  go_enter Tryz.func20, Tryz.ntmps20
  go_wp2
  go_ret
  exact ⟨rfl, rfl⟩
set_option maxHeartbeats 2000000 in
theorem knows_any (D : DB) (N : Nat → Prop) (c : Cnf) (S : DS) (id : Int) (w : World) (h : DepM w D N c S) (hid : wf64 id) : Calls Tryz.prog 20 #[ptr D.db, .int .i64 id] w fun r w' => r = .returned (.bool (S.knows id)) ∧ Below w.heap.size w w' := by
  obtain ⟨g, hg⟩ : ∃ g, w.heap.size = g := ⟨_, rfl⟩
  obtain ⟨A, n, e, M, m, d, K, hlk⟩ := h.look2 hid rfl
  obtain ⟨_, _, _, _, _, c21, _⟩ := dobj_cells h.blk
  clear h
  unfold ptr
  go_enter Tryz.func20, Tryz.ntmps20
  go_wp2_with (first
    | (refine wpList_alloc_agg rfl 135 rfl g hg (kvals none 0 0 none 0 0 ⟨0, 0, 0, 0⟩) (allocCl _) ?_; intro w1 k1 l1 s1; have K1 := Lib.hid k1; have L1 : Hid (Below w.heap.size w w1) := Lib.hid (by rw [hg]; exact l1); clear k1 l1 c21 hlk)
    | (refine wpList_store_agg rfl 135 _ _ rfl g (kvals none 0 0 none 0 0 ⟨0, 0, 0, 0⟩) (kvals A n e M m d K) rfl rfl ?hz rfl sizeCL (onesK _ _ _ _ _ _ _) ?_; (case hz => exact K1.out); intro w2 k2 f2 _; have F2 := Lib.hid f2; clear k2 f2))
  go_ret
  exact ⟨rfl, L1.out.trans (F2.out.below L1.out.size (fun j hj e => by have e' : j = g := e; omega))⟩

theorem DS.fall_er (c : Cnf) (S : DS) (now : Nat) (x : CL) (z : Int) : (S.fall c now x z).er = 0 := by unfold DS.fall; dsimp only; split <;> rfl
theorem DS.enter_er (c : Cnf) (S : DS) (now : Nat) (x : CL) : (S.enter c now x).er = 0 := by
  unfold DS.enter
  dsimp only
  split
  · exact DS.fall_er _ _ _ _ _
  · split
    · exact DS.fall_er _ _ _ _ _
    · rfl
/-! ### Offer -/
theorem offer_nil (now : Int) (A : Option Addr) (n e : Nat) (M : Option Addr) (m d : Nat) (zs : List Int) (ms : List P2) (w : World) (hb : Bat w A n e M m d zs ms) : Calls Tryz.prog 29 #[.pointer none, .int .u64 now, batV A n e M m d] w fun r w' => r = .returned (.tuple #[.agg #[.slice none 0 0, .slice none 0 0], .int .i64 1]) ∧ Below w.heap.size w w' := by
  obtain ⟨g, hg⟩ : ∃ g, w.heap.size = g := ⟨_, rfl⟩
  have HB := Lib.hid hb
  obtain ⟨fr, hur⟩ := undRs
  have HUR := Lib.hid hur
  have ld : ∀ wx : World, wx.heap[g]? = some (bobj 91 A n e M m d) → wx.cell? ⟨g, 0, none⟩ = some (.slice A n e) ∧ wx.cell? ⟨g, 1, none⟩ = some (.slice M m d) := fun wx hx => bobj_cells hx
  clear hb hur
  go_enter Tryz.func29, Tryz.ntmps29
  go_wp2_with (first
    | (refine wpList_box_agg rfl 91 _ rfl g hg [.slice A n e, .slice M m d] rfl ?_; intro w1 k1 l1 s1; have KB1 : Hid (w1.heap[g]? = some (bobj 91 A n e M m d)) := Lib.hid k1; have L1 : Hid (Below w.heap.size w w1) := Lib.hid (by rw [hg]; exact l1); clear k1 l1)
    | (refine wpList_alloc_agg rfl 57 rfl (g + 1) s1 [.slice none 0 0, .slice none 0 0] (allocRs _) ?_; intro w2 k2 l2 s2; have K2 := Lib.hid k2; have L2 : Hid (Below w.heap.size w w2) := Lib.hid (L1.out.trans (l2.mono (by omega)));
       have KB2 := Lib.hid ((l2.block g (by omega)).trans KB1.out); obtain ⟨q0, q1⟩ := ld w2 KB2.out; clear k2 l2 s1)
    | (go_at_call 73; refine (blead_any A n e M m d zs ms w2 (HB.out.below L2.out)).mono ?_; rintro r w3 ⟨rfl, l3⟩; have L3 : Hid (Below w.heap.size w w3) := Lib.hid (L2.out.trans (l3.mono L2.out.size)); have K3 := Lib.hid (kb_below K2.out l3); have KB3 := Lib.hid (kb_below KB2.out l3); clear l3 q0 q1)
    | (refine wpList_build_agg rfl 57 #[] rfl [.slice none 0 0, .slice none 0 0] (buildRs _) ?_)
    | (refine wpList_store_agg rfl 57 _ _ rfl (g + 1) [.slice none 0 0, .slice none 0 0] [.slice none 0 0, .slice none 0 0] rfl rfl ?hz rfl sizeRs (onesRs _ _ _ _ _ _) ?_; (case hz => exact K3.out); intro w4 k4 f4 _; have K4 := Lib.hid k4; have F4 := Lib.hid f4; clear k4 f4))
  refine bodyPost_ret (v := .tuple #[.agg #[.slice none 0 0, .slice none 0 0], .int .i64 1]) (results_agg1 Tryz.results29 rfl (loadRs K4.out) rfl) rfl ?_
  exact ⟨rfl, L3.out.trans (F4.out.below L3.out.size (fun j hj e => by have e' : j = g + 1 := e; omega))⟩

set_option maxHeartbeats 4000000 in
theorem offer_arg (D : DB) (N : Nat → Prop) (c : Cnf) (S : DS) (now : Nat) (A : Option Addr) (n e : Nat) (M : Option Addr) (m d : Nat) (zs : List Int) (ms : List P2) (w : World) (h : DepM w D N c S) (hf : S.Fine c) (hb : Bat w A n e M m d zs ms) (hn : n ≤ 1000) (hm : m ≤ 1000) (hnow : now ≤ 18446744073709551615) (hl : leadL ms < 1) :
    Calls Tryz.prog 29 #[ptr D.db, .int .u64 now, batV A n e M m d] w (Told17 D N c (S.offer c now zs ms) w) := by
  have hid := lead_wf hb
  have hE : S.offer c now zs ms = ⟨S, [], [], 1⟩ := by unfold DS.offer; rw [if_pos hl]
  rw [hE]
  have HF := Lib.hid hf
  have H := Lib.hid h
  have HID := Lib.hid hid
  clear hE h hf hid
  obtain ⟨g, hg⟩ : ∃ g, w.heap.size = g := ⟨_, rfl⟩
  have HB := Lib.hid hb
  obtain ⟨fr, hur⟩ := undRs
  have HUR := Lib.hid hur
  have ld : ∀ wx : World, wx.heap[g]? = some (bobj 91 A n e M m d) → wx.cell? ⟨g, 0, none⟩ = some (.slice A n e) ∧ wx.cell? ⟨g, 1, none⟩ = some (.slice M m d) := fun wx hx => bobj_cells hx
  clear hb hur
  unfold ptr
  go_enter Tryz.func29, Tryz.ntmps29
  go_wp2_with (first
    | (refine wpList_box_agg rfl 91 _ rfl g hg [.slice A n e, .slice M m d] rfl ?_; intro w1 k1 l1 s1; have KB1 : Hid (w1.heap[g]? = some (bobj 91 A n e M m d)) := Lib.hid k1; have L1 : Hid (Below w.heap.size w w1) := Lib.hid (by rw [hg]; exact l1); clear k1 l1)
    | (refine wpList_alloc_agg rfl 57 rfl (g + 1) s1 [.slice none 0 0, .slice none 0 0] (allocRs _) ?_; intro w2 k2 l2 s2; have K2 := Lib.hid k2; have L2 : Hid (Below w.heap.size w w2) := Lib.hid (L1.out.trans (l2.mono (by omega)));
       have KB2 := Lib.hid ((l2.block g (by omega)).trans KB1.out); obtain ⟨q0, q1⟩ := ld w2 KB2.out; clear k2 l2 s1)
    | (go_at_call 73; refine (blead_any A n e M m d zs ms w2 (HB.out.below L2.out)).mono ?_; rintro r w3 ⟨rfl, l3⟩; have L3 : Hid (Below w.heap.size w w3) := Lib.hid (L2.out.trans (l3.mono L2.out.size)); have K3 := Lib.hid (kb_below K2.out l3); have KB3 := Lib.hid (kb_below KB2.out l3); clear l3 q0 q1)
    | (refine wpList_build_agg rfl 57 #[] rfl [.slice none 0 0, .slice none 0 0] (buildRs _) ?_)
    | (refine wpList_store_agg rfl 57 _ _ rfl (g + 1) [.slice none 0 0, .slice none 0 0] [.slice none 0 0, .slice none 0 0] rfl rfl ?hz rfl sizeRs (onesRs _ _ _ _ _ _) ?_; (case hz => exact K3.out); intro w4 k4 f4 _; have K4 := Lib.hid k4; have F4 := Lib.hid f4; clear k4 f4))
  refine bodyPost_ret (v := .tuple #[.agg #[.slice none 0 0, .slice none 0 0], .int .i64 1]) (results_agg1 Tryz.results29 rfl (loadRs K4.out) rfl) rfl ?_
  have bl : Below w.heap.size w w4 := L3.out.trans (F4.out.below L3.out.size (fun j hj e => by have e' : j = g + 1 := e; omega))
  exact ⟨⟨_, rfl, none, 0, 0, none, 0, 0, rfl, RowR.nil _, RowR.nil _, Fresh.none _, Fresh.none _⟩, (H.out.below bl).grow (fun j hj => .inl hj.1) (fun j hj => ⟨H.out.inN j hj, H.out.old hj⟩), Frm.of_below bl⟩
set_option maxHeartbeats 4000000 in
theorem offer_there (D : DB) (N : Nat → Prop) (c : Cnf) (S : DS) (now : Nat) (A : Option Addr) (n e : Nat) (M : Option Addr) (m d : Nat) (zs : List Int) (ms : List P2) (w : World) (h : DepM w D N c S) (hf : S.Fine c) (hb : Bat w A n e M m d zs ms) (hn : n ≤ 1000) (hm : m ≤ 1000) (hnow : now ≤ 18446744073709551615) (hl : ¬ leadL ms < 1) (hk : S.knows (leadL ms) = true) :
    Calls Tryz.prog 29 #[ptr D.db, .int .u64 now, batV A n e M m d] w (Told17 D N c (S.offer c now zs ms) w) := by
  have hid := lead_wf hb
  have hE : S.offer c now zs ms = ⟨S, [], [], 4⟩ := by unfold DS.offer; rw [if_neg hl, if_pos hk]
  have HK := Lib.hid hk
  clear hk
  rw [hE]
  have HF := Lib.hid hf
  have H := Lib.hid h
  have HID := Lib.hid hid
  clear hE h hf hid
  obtain ⟨g, hg⟩ : ∃ g, w.heap.size = g := ⟨_, rfl⟩
  have HB := Lib.hid hb
  obtain ⟨fr, hur⟩ := undRs
  have HUR := Lib.hid hur
  have ld : ∀ wx : World, wx.heap[g]? = some (bobj 91 A n e M m d) → wx.cell? ⟨g, 0, none⟩ = some (.slice A n e) ∧ wx.cell? ⟨g, 1, none⟩ = some (.slice M m d) := fun wx hx => bobj_cells hx
  clear hb hur
  unfold ptr
  go_enter Tryz.func29, Tryz.ntmps29
  go_wp2_with (first
    | (refine wpList_box_agg rfl 91 _ rfl g hg [.slice A n e, .slice M m d] rfl ?_; intro w1 k1 l1 s1; have KB1 : Hid (w1.heap[g]? = some (bobj 91 A n e M m d)) := Lib.hid k1; have L1 : Hid (Below w.heap.size w w1) := Lib.hid (by rw [hg]; exact l1); clear k1 l1)
    | (refine wpList_alloc_agg rfl 57 rfl (g + 1) s1 [.slice none 0 0, .slice none 0 0] (allocRs _) ?_; intro w2 k2 l2 s2; have K2 := Lib.hid k2; have L2 : Hid (Below w.heap.size w w2) := Lib.hid (L1.out.trans (l2.mono (by omega)));
       have KB2 := Lib.hid ((l2.block g (by omega)).trans KB1.out); obtain ⟨q0, q1⟩ := ld w2 KB2.out; clear k2 l2 s1)
    | (go_at_call 73; refine (blead_any A n e M m d zs ms w2 (HB.out.below L2.out)).mono ?_; rintro r w3 ⟨rfl, l3⟩; have L3 : Hid (Below w.heap.size w w3) := Lib.hid (L2.out.trans (l3.mono L2.out.size)); have K3 := Lib.hid (kb_below K2.out l3); have KB3 := Lib.hid (kb_below KB2.out l3); clear l3 q0 q1)
    | (go_at_call 20; refine (knows_any D N c S (leadL ms) w3 (H.out.below L3.out) HID.out).mono ?_; rintro r w5 ⟨rfl, l5⟩; rw [HK.out]; have L5 : Hid (Below w.heap.size w w5) := Lib.hid (L3.out.trans (l5.mono L3.out.size)); have K5 := Lib.hid (kb_below K3.out l5); clear l5)
    | (refine wpList_build_agg rfl 57 #[] rfl [.slice none 0 0, .slice none 0 0] (buildRs _) ?_)
    | (refine wpList_store_agg rfl 57 _ _ rfl (g + 1) [.slice none 0 0, .slice none 0 0] [.slice none 0 0, .slice none 0 0] rfl rfl ?hz rfl sizeRs (onesRs _ _ _ _ _ _) ?_; (case hz => exact K5.out); intro w6 k6 f6 _; have K6 := Lib.hid k6; have F6 := Lib.hid f6; clear k6 f6))
  refine bodyPost_ret (v := .tuple #[.agg #[.slice none 0 0, .slice none 0 0], .int .i64 4]) (results_agg1 Tryz.results29 rfl (loadRs K6.out) rfl) rfl ?_
  have bl : Below w.heap.size w w6 := L5.out.trans (F6.out.below L5.out.size (fun j hj e => by have e' : j = g + 1 := e; omega))
  exact ⟨⟨_, rfl, none, 0, 0, none, 0, 0, rfl, RowR.nil _, RowR.nil _, Fresh.none _, Fresh.none _⟩, (H.out.below bl).grow (fun j hj => .inl hj.1) (fun j hj => ⟨H.out.inN j hj, H.out.old hj⟩), Frm.of_below bl⟩
set_option maxHeartbeats 4000000 in
theorem offer_in (D : DB) (N : Nat → Prop) (c : Cnf) (S : DS) (now : Nat) (A : Option Addr) (n e : Nat) (M : Option Addr) (m d : Nat) (zs : List Int) (ms : List P2) (w : World) (h : DepM w D N c S) (hf : S.Fine c) (hb : Bat w A n e M m d zs ms) (hn : n ≤ 1000) (hm : m ≤ 1000) (hnow : now ≤ 18446744073709551615) (hl : ¬ leadL ms < 1) (hk : S.knows (leadL ms) = false) :
    Calls Tryz.prog 29 #[ptr D.db, .int .u64 now, batV A n e M m d] w (Told17 D N c (S.offer c now zs ms) w) := by
  have hid := lead_wf hb
  have hE : S.offer c now zs ms = ⟨(S.enter c now ⟨zs, ms, CN.new now⟩).S, (S.enter c now ⟨zs, ms, CN.new now⟩).acts, (S.enter c now ⟨zs, ms, CN.new now⟩).outs, 0⟩ := by
    unfold DS.offer
    rw [if_neg hl, if_neg (by rw [hk]; simp)]
    have : (S.enter c now ⟨zs, ms, CN.new now⟩).er = 0 := DS.enter_er c S now _
    rw [← this]
  have HK := Lib.hid hk
  clear hk
  rw [hE]
  have HF := Lib.hid hf
  have H := Lib.hid h
  have HID := Lib.hid hid
  clear hE h hf hid
  obtain ⟨g, hg⟩ : ∃ g, w.heap.size = g := ⟨_, rfl⟩
  have HB := Lib.hid hb
  obtain ⟨fr, hur⟩ := undRs
  have HUR := Lib.hid hur
  have ld : ∀ wx : World, wx.heap[g]? = some (bobj 91 A n e M m d) → wx.cell? ⟨g, 0, none⟩ = some (.slice A n e) ∧ wx.cell? ⟨g, 1, none⟩ = some (.slice M m d) := fun wx hx => bobj_cells hx
  clear hb hur
  unfold ptr
  go_enter Tryz.func29, Tryz.ntmps29
  go_wp2_with (first
    | (refine wpList_box_agg rfl 91 _ rfl g hg [.slice A n e, .slice M m d] rfl ?_; intro w1 k1 l1 s1; have KB1 : Hid (w1.heap[g]? = some (bobj 91 A n e M m d)) := Lib.hid k1; have L1 : Hid (Below w.heap.size w w1) := Lib.hid (by rw [hg]; exact l1); clear k1 l1)
    | (refine wpList_alloc_agg rfl 57 rfl (g + 1) s1 [.slice none 0 0, .slice none 0 0] (allocRs _) ?_; intro w2 k2 l2 s2; have K2 := Lib.hid k2; have L2 : Hid (Below w.heap.size w w2) := Lib.hid (L1.out.trans (l2.mono (by omega)));
       have KB2 := Lib.hid ((l2.block g (by omega)).trans KB1.out); obtain ⟨q0, q1⟩ := ld w2 KB2.out; clear k2 l2 s1)
    | (go_at_call 73; refine (blead_any A n e M m d zs ms w2 (HB.out.below L2.out)).mono ?_; rintro r w3 ⟨rfl, l3⟩; have L3 : Hid (Below w.heap.size w w3) := Lib.hid (L2.out.trans (l3.mono L2.out.size)); have K3 := Lib.hid (kb_below K2.out l3); have KB3 := Lib.hid (kb_below KB2.out l3); clear l3 q0 q1)
    | (go_at_call 20; refine (knows_any D N c S (leadL ms) w3 (H.out.below L3.out) HID.out).mono ?_; rintro r w5 ⟨rfl, l5⟩; rw [HK.out]; have L5 : Hid (Below w.heap.size w w5) := Lib.hid (L3.out.trans (l5.mono L3.out.size)); have K5 := Lib.hid (kb_below K3.out l5); have KB5 := Lib.hid (kb_below KB3.out l5); clear l5;
       obtain ⟨q0, q1⟩ := ld w5 KB5.out)
    | (go_at_call 75; refine (kbegin_any A n e M m d now zs ms w5 (HB.out.below L5.out) hn hm).mono ?_; rintro r w6 ⟨A6, e6, M6, d6, rfl, b6, n6, l6⟩; have L6 : Hid (Below w.heap.size w w6) := Lib.hid (L5.out.trans (l6.mono L5.out.size)); have K6 := Lib.hid (kb_below K5.out l6); have B6 := Lib.hid b6; have N6 : Hid (Fresh w5.heap.size A6 ∧ Fresh w5.heap.size M6) := Lib.hid n6; have G5 : Hid (g + 1 < w5.heap.size) := Lib.hid (heap_lt K5.out); clear b6 n6 l6 q0 q1)
    | (go_at_call 74; refine (enter_any D (NB (NU N w) w5) c S ⟨zs, ms, CN.new now⟩ A6 n e6 M6 m d6 now w6 ((H.out.nu.below L6.out).grow (fun j hj => .inl hj.1) (fun j hj => ⟨.inl (H.out.inN j hj), Nat.lt_of_lt_of_le (H.out.old hj) L5.out.size⟩)) B6.out (OffB.fresh N6.out (fun j hj => hj.2)) HF.out.max hn hm HF.out.fits HF.out.chain HF.out.brk (fun z hz => HF.out.has hz) ⟨Int.le_refl 0, (by decide : (0 : Int) ≤ 3)⟩ hnow).mono ?_; rintro r w7 ⟨⟨rv, rfl, rv7⟩, h7, f7⟩;
       obtain ⟨A7, n7, e7, P7, q7, p7, rfl, ra7, ro7, fa7, fo7⟩ := rv7; have H7 := Lib.hid h7; have RA7 := Lib.hid ra7; have RO7 := Lib.hid ro7; have FA7 := Lib.hid fa7; have FO7 := Lib.hid fo7;
       have K7 := Lib.hid ((f7.block (g + 1) (heap_lt K6.out) (fun hc => by have := H.out.old hc; omega)).trans K6.out); have F7 : Hid (Frm D.F w w7) := Lib.hid ((Frm.of_below L6.out).trans f7 (fun _ _ h => h)); clear h7 f7 ra7 ro7 fa7 fo7)
    | (refine wpList_store_agg rfl 57 _ _ rfl (g + 1) [.slice none 0 0, .slice none 0 0] [.slice A7 n7 e7, .slice P7 q7 p7] rfl rfl ?hz rfl sizeRs (onesRs _ _ _ _ _ _) ?_; (case hz => exact K7.out); intro w8 k8 f8 _; have K8 := Lib.hid k8; have F8 := Lib.hid f8; clear k8 f8))
  refine bodyPost_ret (v := .tuple #[.agg #[.slice A7 n7 e7, .slice P7 q7 p7], .int .i64 0]) (results_agg1 Tryz.results29 rfl (loadRs K8.out) rfl) rfl ?_
  have h8 : DepM w8 D (NB (NB (NU N w) w5) w6) c _ := H7.out.frm1 F8.out ⟨⟨.inr (by omega), G5.out⟩, heap_lt K6.out⟩ (ty_cells K7.out) (by decide) (by decide) (by decide) (by decide) (by decide) (by decide) (by decide)
  exact ⟨⟨_, rfl, ResV.cell RA7.out RO7.out (FA7.out.mono L6.out.size) (FO7.out.mono L6.out.size) K7.out F8.out⟩, h8.grow (fun j hj => .inl ⟨⟨.inl hj.1, Nat.lt_of_lt_of_le hj.2 L5.out.size⟩, Nat.lt_of_lt_of_le hj.2 L6.out.size⟩) (fun j hj => ⟨H.out.inN j hj, H.out.old hj⟩), F7.out.trans F8.out (fun j hj e => by have e' : j = g + 1 := e; exfalso; omega)⟩
theorem offer_any (D : DB) (N : Nat → Prop) (c : Cnf) (S : DS) (now : Nat) (A : Option Addr) (n e : Nat) (M : Option Addr) (m d : Nat) (zs : List Int) (ms : List P2) (w : World) (h : DepM w D N c S) (hf : S.Fine c) (hb : Bat w A n e M m d zs ms) (hn : n ≤ 1000) (hm : m ≤ 1000) (hnow : now ≤ 18446744073709551615) :
    Calls Tryz.prog 29 #[ptr D.db, .int .u64 now, batV A n e M m d] w (Told17 D N c (S.offer c now zs ms) w) := by
  by_cases hl : leadL ms < 1
  · exact offer_arg D N c S now A n e M m d zs ms w h hf hb hn hm hnow hl
  · cases hk : S.knows (leadL ms) with
    | true => exact offer_there D N c S now A n e M m d zs ms w h hf hb hn hm hnow hl hk
    | false => exact offer_in D N c S now A n e M m d zs ms w h hf hb hn hm hnow hl hk

/-! ### Pick -/
theorem pick_dnil (now : Int) (w : World) : Calls Tryz.prog 31 #[.pointer none, .int .u64 now] w fun r w' => r = .returned (.tuple #[.agg #[.slice none 0 0, .slice none 0 0], .int .i64 1]) ∧ Below w.heap.size w w' := by
  obtain ⟨g, hg⟩ : ∃ g, w.heap.size = g := ⟨_, rfl⟩
  go_enter Tryz.func31, Tryz.ntmps31
  go_wp2_with (first
    | (refine wpList_alloc_agg rfl 57 rfl g hg [.slice none 0 0, .slice none 0 0] (allocRs _) ?_; intro w1 k1 l1 s1; have K1 := Lib.hid k1; have L1 : Hid (Below w.heap.size w w1) := Lib.hid (by rw [hg]; exact l1); clear l1; clear k1)
    | (refine wpList_build_agg rfl 57 #[] rfl [.slice none 0 0, .slice none 0 0] (buildRs _) ?_)
    | (refine wpList_store_agg rfl 57 _ _ rfl g [.slice none 0 0, .slice none 0 0] [.slice none 0 0, .slice none 0 0] rfl rfl ?hz rfl sizeRs (onesRs _ _ _ _ _ _) ?_; (case hz => exact K1.out); intro w2 k2 f2 _; have K2 := Lib.hid k2; have F2 := Lib.hid f2; clear k2 f2))
  refine bodyPost_ret (v := .tuple #[.agg #[.slice none 0 0, .slice none 0 0], .int .i64 1]) (results_agg1 Tryz.results31 rfl (loadRs K2.out) rfl) rfl ?_
  exact ⟨rfl, L1.out.trans (F2.out.below L1.out.size (fun j hj e => by have e' : j = g := e; omega))⟩
set_option maxHeartbeats 4000000 in
theorem pick_any (D : DB) (N : Nat → Prop) (c : Cnf) (S : DS) (now : Int) (w : World) (h : DepM w D N c S) (hf : S.Fine c) :
    Calls Tryz.prog 31 #[ptr D.db, .int .u64 now] w (Told17 D N c S.pick w) := by
  obtain ⟨g, hg⟩ : ∃ g, w.heap.size = g := ⟨_, rfl⟩
  have H := Lib.hid h
  have HF := Lib.hid hf
  cases hp : S.bul.picked with
  | false =>
    have hE : S.pick = ⟨S, [], [], 3⟩ := by unfold DS.pick; rw [hp]; rfl
    rw [hE]
    have hS : S.bul.pick = S.bul := by
      unfold BU.picked at hp
      unfold BU.pick
      split
      · rfl
      · rename_i y l hw
        rw [hw] at hp
        rw [if_neg (by simpa using hp)]
    have HS := Lib.hid hS
    have HP := Lib.hid hp
    clear hE hp h hf hS
    unfold ptr
    go_enter Tryz.func31, Tryz.ntmps31
    go_wp2_with (first
      | (refine wpList_alloc_agg rfl 57 rfl g hg [.slice none 0 0, .slice none 0 0] (allocRs _) ?_; intro w1 k1 l1 s1; have K1 := Lib.hid k1; have L1 : Hid (Below w.heap.size w w1) := Lib.hid (by rw [hg]; exact l1); clear l1; obtain ⟨_, c1, _, _, _, _, _⟩ := dobj_cells (H.out.below L1.out).blk; clear k1)
      | (go_at_call 77; refine (pick_bul D.ub D.f S.bul w1 (H.out.below L1.out).bul).mono ?_; rintro r w2 ⟨rfl, x2, f2⟩; rw [HP.out]; rw [HS.out] at x2;
         have H2 : Hid (DepM w2 D (NU N w) c S) := Lib.hid ((H.out.nu.below L1.out).bul1 f2 x2); have K2 := Lib.hid ((f2.block g (heap_lt K1.out) (fun hc => by have := H.out.old (.inr (.inr (.inl hc)) : D.F g); omega)).trans K1.out);
         have F2 : Hid (Frm D.F w w2) := Lib.hid ((Frm.of_below L1.out).trans (f2.mono (F' := D.F) (fun j _ e => .inr (.inr (.inl e)))) (fun _ _ h => h)); clear x2 f2 c1)
      | (refine wpList_build_agg rfl 57 #[] rfl [.slice none 0 0, .slice none 0 0] (buildRs _) ?_)
      | (refine wpList_store_agg rfl 57 _ _ rfl g [.slice none 0 0, .slice none 0 0] [.slice none 0 0, .slice none 0 0] rfl rfl ?hz rfl sizeRs (onesRs _ _ _ _ _ _) ?_; (case hz => exact K2.out); intro w3 k3 f3 _; have K3 := Lib.hid k3; have F3 := Lib.hid f3; clear k3 f3))
    refine bodyPost_ret (v := .tuple #[.agg #[.slice none 0 0, .slice none 0 0], .int .i64 3]) (results_agg1 Tryz.results31 rfl (loadRs K3.out) rfl) rfl ?_
    have h3 : DepM w3 D (NU N w) c S := H2.out.frm1 F3.out (.inr (by omega)) (ty_cells K2.out) (by decide) (by decide) (by decide) (by decide) (by decide) (by decide) (by decide)
    exact ⟨⟨_, rfl, none, 0, 0, none, 0, 0, rfl, RowR.nil _, RowR.nil _, Fresh.none _, Fresh.none _⟩, h3.nu_nb H.out, F2.out.trans F3.out (fun j hj e => by have e' : j = g := e; exfalso; omega)⟩
  | true =>
    have hE : S.pick = ⟨(S.bulB S.bul.pick).run1 S.bul.first, [], [], 0⟩ := by unfold DS.pick; rw [hp]; rfl
    rw [hE]
    have hfw : S.bul.first ∈ S.bul.wait := by
      unfold BU.picked at hp
      unfold BU.first
      split at hp
      · cases hp
      · rename_i y l hw
        rw [hw]
        simp only [if_pos (of_decide_eq_true hp)]
        simp
    have HFW := Lib.hid hfw
    have HP := Lib.hid hp
    clear hE hp h hf hfw
    unfold ptr
    go_enter Tryz.func31, Tryz.ntmps31
    go_wp2_with (first
      | (refine wpList_alloc_agg rfl 57 rfl g hg [.slice none 0 0, .slice none 0 0] (allocRs _) ?_; intro w1 k1 l1 s1; have K1 := Lib.hid k1; have L1 : Hid (Below w.heap.size w w1) := Lib.hid (by rw [hg]; exact l1); clear l1; obtain ⟨_, c1, _, _, _, _, _⟩ := dobj_cells (H.out.below L1.out).blk; clear k1)
      | (go_at_call 77; refine (pick_bul D.ub D.f S.bul w1 (H.out.below L1.out).bul).mono ?_; rintro r w2 ⟨rfl, x2, f2⟩; rw [HP.out];
         have H2 : Hid (DepM w2 D (NU N w) c (S.bulB S.bul.pick)) := Lib.hid ((H.out.nu.below L1.out).bul1 f2 x2); have K2 := Lib.hid ((f2.block g (heap_lt K1.out) (fun hc => by have := H.out.old (.inr (.inr (.inl hc)) : D.F g); omega)).trans K1.out);
         have F2 : Hid (Frm D.F w w2) := Lib.hid ((Frm.of_below L1.out).trans (f2.mono (F' := D.F) (fun j _ e => .inr (.inr (.inl e)))) (fun _ _ h => h)); clear x2 f2 c1)
      | (go_at_call 78; refine (run_any D (NU N w) c (S.bulB S.bul.pick) (some ⟨w2.heap.size, 0, none⟩) 1 1 [S.bul.first] _ (H2.out.below (below_alloc w2 _)) (RowR.one (R := irec) w2 S.bul.first 3 (cs := #[.int .i64 S.bul.first]) rfl) (fun z hz => by rw [List.mem_singleton] at hz; subst hz; exact ⟨HF.out.has HFW.out, H.out.bul.ok.ww _ HFW.out⟩) (Nat.lt_of_succ_lt HF.out.max) (by decide)).mono ?_; rintro r w3 ⟨rfl, h3, f3⟩;
         have B3 := below_alloc w2 (.cells #[.int .i64 S.bul.first] 3); have S3 : Hid (w2.heap.size ≤ (w2.alloc (.cells #[.int .i64 S.bul.first] 3)).heap.size) := Lib.hid B3.size;
         have NCM : Hid (D.cm < g) := Lib.hid (by have := H.out.old (.inr (.inr (.inr (.inr (.inr (.inr rfl))))) : D.F D.cm); omega);
         have H3 := Lib.hid h3; have K3 := Lib.hid ((f3.block g (heap_lt (kb_below K2.out B3)) (fun e => by have e' : g = D.cm := e; have := NCM.out; omega)).trans (kb_below K2.out B3));
         have F3 : Hid (Frm D.F w w3) := Lib.hid ((F2.out.then_below B3).trans (f3.mono (F' := D.F) (fun j _ e => .inr (.inr (.inr (.inr (.inr (.inr e))))))) (fun _ _ h => h)); have G2 : Hid (g < w2.heap.size) := Lib.hid (heap_lt K2.out); clear h3 f3 B3)
      | (refine wpList_build_agg rfl 57 #[] rfl [.slice none 0 0, .slice none 0 0] (buildRs _) ?_)
      | (refine wpList_store_agg rfl 57 _ _ rfl g [.slice none 0 0, .slice none 0 0] [.slice none 0 0, .slice none 0 0] rfl rfl ?hz rfl sizeRs (onesRs _ _ _ _ _ _) ?_; (case hz => exact K3.out); intro w4 k4 f4 _; have K4 := Lib.hid k4; have F4 := Lib.hid f4; clear k4 f4))
    refine bodyPost_ret (v := .tuple #[.agg #[.slice none 0 0, .slice none 0 0], .int .i64 0]) (results_agg1 Tryz.results31 rfl (loadRs K4.out) rfl) rfl ?_
    have h4 := H3.out.frm1 F4.out ⟨.inr (by omega), Nat.lt_of_lt_of_le G2.out S3.out⟩ (ty_cells K3.out) (by decide) (by decide) (by decide) (by decide) (by decide) (by decide) (by decide)
    exact ⟨⟨_, rfl, none, 0, 0, none, 0, 0, rfl, RowR.nil _, RowR.nil _, Fresh.none _, Fresh.none _⟩, h4.grow (fun j hj => .inl ⟨.inl hj.1, Nat.lt_of_lt_of_le hj.2 (Nat.le_trans F2.out.size S3.out)⟩) (fun j hj => ⟨H.out.inN j hj, H.out.old hj⟩), F3.out.trans F4.out (fun j hj e => by have e' : j = g := e; exfalso; omega)⟩
end Go.Proofs.YtgnccpmkdgfjeaaGreat

namespace Go.Proofs.YtgnccpmkdgfjeaaGreat
set_option linter.unusedVariables false
open Go.ChangeShapes Go.WideShapes Go.ChangeAt Go.RowKit

/-- One of nobody yet. -/
def BU.none_ (most que : Nat) : BU := ⟨most, que, [], []⟩
theorem BU.ok_none {most que : Nat} (hm : most ≤ 8) (hq : que ≤ 8) : (BU.none_ most que).Ok :=
  ⟨List.nodup_nil, List.nodup_nil, fun x hx => by simp [BU.none_] at hx, Nat.zero_le _, Nat.zero_le _, hm, hq, fun x hx => by simp [BU.none_] at hx, fun x hx => by simp [BU.none_] at hx⟩
theorem with_some (most que : Nat) (w : World) (hm : most ≤ 8) (hq : que ≤ 8) :
    Calls Tryz.prog 86 #[.int .i64 most, .int .i64 que] w fun r w' => ∃ b, r = .returned (.pointer (some ⟨b, 0, none⟩)) ∧ ∃ f : Fb, Bul w' b f (BU.none_ most que) ∧ Below w.heap.size w w' ∧ w.heap.size ≤ b ∧ w.heap.size ≤ f.m ∧ w.heap.size ≤ f.rb := by
  have HP := Lib.hid (new_prm most w hm)
  have OK := Lib.hid (BU.ok_none hm hq)
  have HQ := Lib.hid hq
  clear hm hq
  go_enter Tryz.func86, Tryz.ntmps86
  go_wp2_with fail
  refine HP.out.mono ?_
  rintro r w1 ⟨pb, rfl, m, p1, b1, _, hm1⟩
  have P1 := Lib.hid p1
  have B1 := Lib.hid b1
  have M1 := Lib.hid hm1
  have HR := Lib.hid (new_some que w1 HQ.out)
  clear p1 b1 hm1 HP
  go_wp2_with fail
  refine HR.out.mono ?_
  rintro r w2 ⟨rfl, r2, b2⟩
  have h3 : Bul (w2.alloc (bulobj ⟨pb, m, w1.heap.size⟩)) w2.heap.size ⟨pb, m, w1.heap.size⟩ (BU.none_ most que) :=
    ⟨heap_alloc_at _ _, (P1.out.below b2).below (below_alloc _ _), r2.below (below_alloc _ _), OK.out⟩
  have H3 := Lib.hid h3
  have B2 := Lib.hid (B1.out.trans (b2.mono B1.out.size))
  clear r2 b2 h3 HR
  go_wp2
  go_ret
  have s1 := B1.out.size
  have s2 := B2.out.size
  exact ⟨_, rfl, _, H3.out, B2.out.alloc s2 _, s2, M1.out, s1⟩
theorem with_bad (most que : Int) (w : World) (h : (most < 0 ∨ 8 < most) ∨ (que < 0 ∨ 8 < que)) :
    Calls Tryz.prog 86 #[.int .i64 most, .int .i64 que] w fun r w' => r = .returned (.pointer none) ∧ Below w.heap.size w w' := by
  by_cases hm : most < 0 ∨ 8 < most
  · have HP := Lib.hid (new_bad most w hm)
    clear h hm
    by_cases hq : que < 0 ∨ 8 < que
    · have HR := Lib.hid (new_none que w hq)
      clear hq
      go_enter Tryz.func86, Tryz.ntmps86
      go_wp2_with fail
      refine HP.out.mono ?_
      rintro r w1 ⟨rfl, rfl⟩
      go_wp2_with fail
      refine HR.out.mono ?_
      rintro r w2 ⟨rfl, rfl⟩
      go_wp2
      go_ret
      exact ⟨rfl, Below.refl _ _⟩
    · obtain ⟨q, rfl⟩ : ∃ q : Nat, que = q := ⟨que.toNat, by omega⟩
      have HR := Lib.hid (new_some q w (by omega))
      clear hq
      go_enter Tryz.func86, Tryz.ntmps86
      go_wp2_with fail
      refine HP.out.mono ?_
      rintro r w1 ⟨rfl, rfl⟩
      go_wp2_with fail
      refine HR.out.mono ?_
      rintro r w2 ⟨rfl, _, b2⟩
      have B2 := Lib.hid b2
      clear b2
      go_wp2
      go_ret
      exact ⟨rfl, B2.out⟩
  · have hq := h.resolve_left hm
    obtain ⟨p, rfl⟩ : ∃ p : Nat, most = p := ⟨most.toNat, by omega⟩
    have HP := Lib.hid (new_prm p w (by omega))
    have HQ := Lib.hid hq
    clear h hm hq
    go_enter Tryz.func86, Tryz.ntmps86
    go_wp2_with fail
    refine HP.out.mono ?_
    rintro r w1 ⟨pb, rfl, m, _, b1, _, _⟩
    have B1 := Lib.hid b1
    have HR := Lib.hid (new_none que w1 HQ.out)
    clear b1 HP
    go_wp2_with fail
    refine HR.out.mono ?_
    rintro r w2 ⟨rfl, rfl⟩
    go_wp2
    go_ret
    exact ⟨rfl, B1.out⟩

/-- The configuration is one of so many workers, and of a queue that is so long. -/
def Cnf.Bulk (c : Cnf) (most que : Nat) : Prop := most ≤ 8 ∧ que ≤ 8 ∧ ((c.mode = 1 ∧ c.pool = most ∧ c.queue = que) ∨ (c.mode = 2 ∧ c.sem = most ∧ que = 0))
/-- It is one of none. -/
def Cnf.NoBulk (c : Cnf) : Prop := (c.mode = 1 ∧ ((c.pool < 0 ∨ 8 < c.pool) ∨ (c.queue < 0 ∨ 8 < c.queue))) ∨ (c.mode = 2 ∧ (c.sem < 0 ∨ 8 < c.sem)) ∨ (c.mode ≠ 1 ∧ c.mode ≠ 2)
theorem Cnf.bulk_or (c : Cnf) : (∃ most que, c.Bulk most que) ∨ c.NoBulk := by
  unfold Cnf.Bulk Cnf.NoBulk
  by_cases h1 : c.mode = 1
  · by_cases h2 : 0 ≤ c.pool ∧ c.pool ≤ 8 ∧ 0 ≤ c.queue ∧ c.queue ≤ 8
    · exact .inl ⟨c.pool.toNat, c.queue.toNat, by omega, by omega, .inl ⟨h1, by omega, by omega⟩⟩
    · exact .inr (.inl ⟨h1, by omega⟩)
  · by_cases h2 : c.mode = 2
    · by_cases h3 : 0 ≤ c.sem ∧ c.sem ≤ 8
      · exact .inl ⟨c.sem.toNat, 0, by omega, by omega, .inr ⟨h2, by omega, rfl⟩⟩
      · exact .inr (.inr (.inl ⟨h2, by omega⟩))
    · exact .inr (.inr (.inr ⟨h1, h2⟩))

set_option maxRecDepth 100000 in
set_option maxHeartbeats 1000000 in
theorem new_bul (c : Cnf) (most que : Nat) (w : World) (h : c.Bulk most que) :
    Calls Tryz.prog 37 #[.agg (aggV c.vals)] w fun r w' => ∃ b, r = .returned (.pointer (some ⟨b, 0, none⟩)) ∧ ∃ f : Fb, Bul w' b f (BU.none_ most que) ∧ Below w.heap.size w w' ∧ w.heap.size ≤ b ∧ w.heap.size ≤ f.m ∧ w.heap.size ≤ f.rb := by
  obtain ⟨hm, hq, h⟩ := h
  obtain ⟨g, hg⟩ : ∃ g, w.heap.size = g := ⟨_, rfl⟩
  have HM := Lib.hid hm
  have HQ := Lib.hid hq
  clear hm hq
  rcases h with ⟨e0, e1, e2⟩ | ⟨e0, e1, e2⟩
  · go_enter Tryz.func37, Tryz.ntmps37
    go_wp2_with (first
      | (refine wpList_box_agg rfl 24 _ rfl g hg c.vals rfl ?_; intro w1 h1 l1 s1;
         obtain ⟨c0, c1, c2, c3, _⟩ := Cnf.cells_vals h1;
         rw [e0] at c0; rw [e1] at c1; rw [e2] at c2;
         have L1 := Lib.hid l1;
         clear h1 l1 e0 e1 e2)
      | (go_at_call 86; refine (with_some most que w1 HM.out HQ.out).mono ?_; rintro r w2 ⟨b, rfl, f, h2, b2, hb, hfm, hfr⟩; have H2 := Lib.hid h2; have B2 := Lib.hid b2; have S2 := Lib.hid (And.intro hb (And.intro hfm hfr)); clear h2 b2 hb hfm hfr))
    go_ret
    obtain ⟨q1, q2, q3⟩ := S2.out
    subst hg
    exact ⟨b, rfl, f, H2.out, L1.out.trans (B2.out.mono (by omega)), by omega, by omega, by omega⟩
  · subst e2
    have e01 : (c.mode == 1) = false := by rw [e0]; rfl
    go_enter Tryz.func37, Tryz.ntmps37
    go_wp2_with (first
      | (refine wpList_box_agg rfl 24 _ rfl g hg c.vals rfl ?_; intro w1 h1 l1 s1;
         obtain ⟨c0, c1, c2, c3, _⟩ := Cnf.cells_vals h1;
         rw [e0] at c0; rw [e1] at c3;
         have L1 := Lib.hid l1;
         clear h1 l1 e0 e1)
      | (go_at_call 86; refine (with_some most 0 w1 HM.out HQ.out).mono ?_; rintro r w2 ⟨b, rfl, f, h2, b2, hb, hfm, hfr⟩; have H2 := Lib.hid h2; have B2 := Lib.hid b2; have S2 := Lib.hid (And.intro hb (And.intro hfm hfr)); clear h2 b2 hb hfm hfr))
    go_ret
    obtain ⟨q1, q2, q3⟩ := S2.out
    subst hg
    exact ⟨b, rfl, f, H2.out, L1.out.trans (B2.out.mono (by omega)), by omega, by omega, by omega⟩
set_option maxRecDepth 100000 in
set_option maxHeartbeats 1000000 in
theorem new_nobulk (c : Cnf) (w : World) (h : c.NoBulk) :
    Calls Tryz.prog 37 #[.agg (aggV c.vals)] w fun r w' => r = .returned (.pointer none) ∧ Below w.heap.size w w' := by
  obtain ⟨g, hg⟩ : ∃ g, w.heap.size = g := ⟨_, rfl⟩
  rcases h with ⟨e0, hb⟩ | ⟨e0, hb⟩ | ⟨e0, e1⟩
  · have HB := Lib.hid hb
    clear hb
    go_enter Tryz.func37, Tryz.ntmps37
    go_wp2_with (first
      | (refine wpList_box_agg rfl 24 _ rfl g hg c.vals rfl ?_; intro w1 h1 l1 s1;
         obtain ⟨c0, c1, c2, c3, _⟩ := Cnf.cells_vals h1;
         rw [e0] at c0;
         have L1 := Lib.hid l1;
         clear h1 l1 e0)
      | (go_at_call 86; refine (with_bad c.pool c.queue w1 HB.out).mono ?_; rintro r w2 ⟨rfl, b2⟩; have B2 := Lib.hid b2; clear b2))
    go_ret
    subst hg
    exact ⟨rfl, L1.out.trans (B2.out.mono (by omega))⟩
  · have HB := Lib.hid hb
    clear hb
    go_enter Tryz.func37, Tryz.ntmps37
    go_wp2_with (first
      | (refine wpList_box_agg rfl 24 _ rfl g hg c.vals rfl ?_; intro w1 h1 l1 s1;
         obtain ⟨c0, c1, c2, c3, _⟩ := Cnf.cells_vals h1;
         rw [e0] at c0;
         have L1 := Lib.hid l1;
         clear h1 l1 e0)
      | (go_at_call 86; refine (with_bad c.sem 0 w1 (.inl HB.out)).mono ?_; rintro r w2 ⟨rfl, b2⟩; have B2 := Lib.hid b2; clear b2))
    go_ret
    subst hg
    exact ⟨rfl, L1.out.trans (B2.out.mono (by omega))⟩
  · have e0' : (c.mode == 1) = false := by simp [e0]
    have e1' : (c.mode == 2) = false := by simp [e1]
    clear e0 e1
    go_enter Tryz.func37, Tryz.ntmps37
    go_wp2_with (first
      | (refine wpList_box_agg rfl 24 _ rfl g hg c.vals rfl ?_; intro w1 h1 l1 s1;
         obtain ⟨c0, c1, c2, c3, _⟩ := Cnf.cells_vals h1;
         have L1 := Lib.hid l1;
         clear h1 l1))
    go_ret
    subst hg
    exact ⟨rfl, L1.out⟩
end Go.Proofs.YtgnccpmkdgfjeaaGreat

namespace Go.Proofs.YtgnccpmkdgfjeaaGreat
open Go.ChangeShapes Go.WideShapes Go.ChangeAt Go.RowKit

def mulS (a b : Int) : Int := if a * b ≤ 18446744073709551615 then a * b else 18446744073709551615
theorem mulS_bd {a b : Int} (ha : 0 ≤ a) (hb : 0 ≤ b) : 0 ≤ mulS a b ∧ mulS a b ≤ 18446744073709551615 := by
  have := Int.mul_nonneg ha hb
  unfold mulS; split <;> omega
end Go.Proofs.YtgnccpmkdgfjeaaGreat

namespace Go.Proofs.YtgnccpmkdgfjeaaGreat
set_option linter.unusedVariables false
open Go.ChangeShapes Go.WideShapes Go.ChangeAt Go.RowKit
namespace Cnf
/-- How long a command takes at most. -/
def bound (c : Cnf) : Int := sumS [c.timeout, c.window, mulS (IntKind.u64.wrap c.chain) c.fbTimeout, 1]
theorem mulS_small {a b : Int} (h : a * b ≤ 18446744073709551615) : mulS a b = a * b := by unfold mulS; rw [if_pos h]
theorem chain_mul {n x : Int} (h0 : 0 ≤ n) (h3 : n ≤ 3) (hx : 0 ≤ x) (hx' : x ≤ 1099511627776) : 0 ≤ n * x ∧ n * x ≤ 3298534883328 := by
  obtain rfl | rfl | rfl | rfl : n = 0 ∨ n = 1 ∨ n = 2 ∨ n = 3 := by omega
  all_goals omega
theorem sum4 {a b c : Int} (ha : 0 ≤ a) (hb : 0 ≤ b) (hc : 0 ≤ c) (h : a + b + c + 1 ≤ 18446744073709551615) : sumS [a, b, c, 1] = a + b + c + 1 := by
  simp only [sumS, List.foldl_cons, List.foldl_nil]
  unfold addS
  rw [if_pos (by omega : 0 + a ≤ _), if_pos (by omega : 0 + a + b ≤ _), if_pos (by omega : 0 + a + b + c ≤ _), if_pos (by omega)]
  omega
theorem bound_eq {c : Cnf} (h0 : 0 ≤ c.chain) (h3 : c.chain ≤ 3) (hf : 0 ≤ c.fbTimeout ∧ c.fbTimeout ≤ 1099511627776) (ht : 0 ≤ c.timeout ∧ c.timeout ≤ 1103806595072) (hw : 0 ≤ c.window ∧ c.window ≤ 1099511627776) :
    c.bound = c.timeout + c.window + c.chain * c.fbTimeout + 1 := by
  have hm := chain_mul h0 h3 hf.1 hf.2
  have hu : IntKind.u64.wrap c.chain = c.chain := by rw [IntKind.wrap_u64]; omega
  unfold bound
  rw [hu, mulS_small (by omega), sum4 ht.1 hw.1 hm.1 (by omega)]
end Cnf
end Go.Proofs.YtgnccpmkdgfjeaaGreat

namespace Go.Proofs.YtgnccpmkdgfjeaaGreat
set_option linter.unusedVariables false
open Go.ChangeShapes Go.WideShapes Go.ChangeAt Go.RowKit

theorem undF : Tryz.prog.underlying 169 = some (.array 16 2) := by kernel_rfl
theorem sizeF (c : Cnf) : (Tryz.prog.info? 169).map (·.size) = some c.nums.length := by rw [c.len_nums]; kernel_rfl
theorem allocF (w : World) : (Instr.alloc 169 true (.tuple #[])).run Tryz.prog w = .ok (.pointer (some ⟨w.heap.size, 0, none⟩)) (w.alloc (vobj 169 Cnf.zero.nums)) := by kernel_rfl
theorem loadF {w : World} {g : Nat} {c : Cnf} (h : w.heap[g]? = some (vobj 169 c.nums)) : (loadVar 169 ⟨g, 0, none⟩).run Tryz.prog w = .ok (.agg (aggV c.nums)) w :=
  run_load_agg w _ g c.nums _ h undF rfl (sizeF c)

set_option maxRecDepth 100000 in
set_option maxHeartbeats 1000000 in
theorem put_any (c : Cnf) (w : World) :
    Calls Tryz.prog 85 #[.agg (aggV c.vals)] w fun r w' => r = .returned (.agg (aggV c.put.nums)) ∧ Below w.heap.size w w' := by
  obtain ⟨g, hg⟩ : ∃ g, w.heap.size = g := ⟨_, rfl⟩
  go_enter Tryz.func85, Tryz.ntmps85
  go_wp2_with (first
    | (refine wpList_box_agg rfl 24 _ rfl g hg c.vals rfl ?_; intro w1 h1 l1 s1)
    | (refine wpList_alloc_agg rfl 169 rfl (g + 1) s1 Cnf.zero.nums (allocF _) ?_; intro w2 h2 l2 s2;
       have h12 : w2.heap[g]? = some (vobj 24 c.vals) := (l2.block g (by omega)).trans h1;
       obtain ⟨c0, c1, c2, c3, c4, c5, c6, c7, c8, c9, c10, c11, c12, c13, c14, c15⟩ := Cnf.cells_vals h12;
       clear h12)
    | (refine wpList_build_agg rfl 169 _ rfl c.put.nums ?hb ?_; (case hb => kernel_rfl))
    | (refine wpList_store_agg rfl 169 _ _ rfl (g + 1) Cnf.zero.nums c.put.nums rfl rfl h2 rfl (sizeF _) (Cnf.ones_nums _) ?_; intro w3 h3 f3 s3))
  refine bodyPost_ret (v := .agg (aggV c.put.nums)) (results_agg Tryz.results85 rfl (loadF h3)) rfl ⟨rfl, ?_⟩
  subst hg
  exact (l1.trans (l2.mono (by omega))).trans (f3.below (by omega) (fun j hj e => by omega))
end Go.Proofs.YtgnccpmkdgfjeaaGreat

namespace Go.Proofs.YtgnccpmkdgfjeaaGreat
set_option linter.unusedVariables false
open Go.ChangeShapes Go.WideShapes Go.ChangeAt Go.RowKit

/-- The spans as cells. -/
def two (a b : Int) : List Value := [.int .i64 a, .int .i64 b]
def spanV (f : Cnf) : List Value := f.spans.flatMap fun p => two p.1 p.2
def span0 : List Value := [(1, 2), (0, 0), (0, 0), (0, 0), (0, 4), (0, 3), (1, 1099511627776), (1, 1099511627776), (1, 1000), (0, 100), (0, 1099511627776), (1, 8), (1, 1099511627776), (0, 1099511627776), (0, 0), (0, 2)].flatMap fun p => two p.1 p.2
def spanZ : List Value := List.replicate 32 (.int .i64 0)
theorem len_spanV (f : Cnf) : (spanV f).length = 32 := by kernel_rfl
theorem ones_two (a b : Int) : Ones (two a b) := by intro v hv; simp only [two, List.mem_cons, List.not_mem_nil, or_false] at hv; rcases hv with rfl | rfl <;> rfl
theorem ones_flat (l : List (Int × Int)) : Ones (l.flatMap fun p => two p.1 p.2) := by
  intro v hv
  rw [List.mem_flatMap] at hv
  obtain ⟨p, _, hp⟩ := hv
  exact ones_two _ _ v hp
theorem allocS (w : World) : (Instr.alloc 244 true (.tuple #[])).run Tryz.prog w = .ok (.pointer (some ⟨w.heap.size, 0, none⟩)) (w.alloc (vobj 244 spanZ)) := by kernel_rfl
theorem undS : Tryz.prog.underlying 244 = some (.array 16 243) := by kernel_rfl
theorem sizeS {vs : List Value} (h : vs.length = 32) : (Tryz.prog.info? 244).map (·.size) = some vs.length := by rw [h]; kernel_rfl
theorem spans_1 {f : Cnf} (h : f.mode = 1) (h' : f.window = 0) : spanV f = putV (putV span0 2 (two 1 8)) 4 (two 0 8) := by
  simp only [spanV, Cnf.spans, h, h', if_true, show ¬ ((1 : Int) = 2) by omega, if_false]; rfl
theorem spans_2 {f : Cnf} (h : f.mode = 2) (h' : f.window = 0) : spanV f = putV span0 6 (two 1 8) := by
  simp only [spanV, Cnf.spans, h, h', if_true, show ¬ ((2 : Int) = 1) by omega, if_false]; rfl
theorem spans_3 {f : Cnf} (h1 : ¬ f.mode = 1) (h2 : ¬ f.mode = 2) (h' : f.window = 0) : spanV f = span0 := by
  simp only [spanV, Cnf.spans, h1, h2, h', if_true, if_false]; rfl
theorem spans_4 {f : Cnf} (h : f.mode = 1) (h' : ¬ f.window = 0) : spanV f = putV (putV (putV span0 2 (two 1 8)) 4 (two 0 8)) 28 (two 1 4) := by
  simp only [spanV, Cnf.spans, h, h', if_true, show ¬ ((1 : Int) = 2) by omega, if_false]; rfl
theorem spans_5 {f : Cnf} (h : f.mode = 2) (h' : ¬ f.window = 0) : spanV f = putV (putV span0 6 (two 1 8)) 28 (two 1 4) := by
  simp only [spanV, Cnf.spans, h, h', if_true, show ¬ ((2 : Int) = 1) by omega, if_false]; rfl
theorem spans_6 {f : Cnf} (h1 : ¬ f.mode = 1) (h2 : ¬ f.mode = 2) (h' : ¬ f.window = 0) : spanV f = putV span0 28 (two 1 4) := by
  simp only [spanV, Cnf.spans, h1, h2, h', if_false]; rfl

/-- While the spans are laid: what else there is. -/
structure SpK (g : Nat) (n : List Value) (w v : World) : Prop where
  low : Below g w v
  size : v.heap.size = g + 3
  res : v.heap[g + 1]? = some (vobj 244 spanZ)
  arg : v.heap[g]? = some (vobj 169 n)
theorem SpK.keep {g : Nat} {n : List Value} {w v v' : World} (h : SpK g n w v) (f : Frm (· = g + 2) v v') (hs : v'.heap.size = v.heap.size) : SpK g n w v' :=
  ⟨h.low.trans (f.below (by rw [h.size]; omega) (fun j hj e => by omega)), hs.trans h.size, (f.block (g + 1) (by rw [h.size]; omega) (by omega)).trans h.res, (f.block g (by rw [h.size]; omega) (by omega)).trans h.arg⟩
set_option maxRecDepth 100000 in
set_option maxHeartbeats 2000000 in
theorem spans_any (f : Cnf) (w : World) :
    Calls Tryz.prog 143 #[.agg (aggV f.nums)] w fun r w' => r = .returned (.agg (aggV (spanV f))) ∧ Below w.heap.size w w' := by
  obtain ⟨g, hg⟩ : ∃ g, w.heap.size = g := ⟨_, rfl⟩
  have cs : ∃ S, Hid (spanV f = S) ∧ ((f.mode = 1 ∧ f.window = 0 ∧ S = putV (putV span0 2 (two 1 8)) 4 (two 0 8)) ∨ (f.mode = 2 ∧ f.window = 0 ∧ S = putV span0 6 (two 1 8)) ∨ (¬ f.mode = 1 ∧ ¬ f.mode = 2 ∧ f.window = 0 ∧ S = span0)
      ∨ (f.mode = 1 ∧ ¬ f.window = 0 ∧ S = putV (putV (putV span0 2 (two 1 8)) 4 (two 0 8)) 28 (two 1 4)) ∨ (f.mode = 2 ∧ ¬ f.window = 0 ∧ S = putV (putV span0 6 (two 1 8)) 28 (two 1 4)) ∨ (¬ f.mode = 1 ∧ ¬ f.mode = 2 ∧ ¬ f.window = 0 ∧ S = putV span0 28 (two 1 4))) := by
    by_cases h' : f.window = 0
    · by_cases h : f.mode = 1
      · exact ⟨_, Lib.hid (spans_1 h h'), by simp [h, h']⟩
      · by_cases h2 : f.mode = 2
        · exact ⟨_, Lib.hid (spans_2 h2 h'), by simp [h2, h']⟩
        · exact ⟨_, Lib.hid (spans_3 h h2 h'), by simp [h, h2, h']⟩
    · by_cases h : f.mode = 1
      · exact ⟨_, Lib.hid (spans_4 h h'), by simp [h, h']⟩
      · by_cases h2 : f.mode = 2
        · exact ⟨_, Lib.hid (spans_5 h2 h'), by simp [h2, h']⟩
        · exact ⟨_, Lib.hid (spans_6 h h2 h'), by simp [h, h2, h']⟩
  obtain ⟨S, HS, cs⟩ := cs
  obtain ⟨n, hn⟩ : ∃ n, f.nums = n := ⟨_, rfl⟩
  have HC : Hid (∀ v : World, v.heap[g]? = some (vobj 169 n) → v.cell? ⟨g, 0, none⟩ = some (.int .i64 f.mode) ∧ v.cell? ⟨g, 13, none⟩ = some (.int .i64 f.window)) := Lib.hid (fun v hv => by
    rw [← hn] at hv
    exact ⟨(Cnf.cells_nums hv).1, (Cnf.cells_nums hv).2.2.2.2.2.2.2.2.2.2.2.2.2.1⟩)
  rw [hn]
  clear hn
  generalize f.mode = m at *
  generalize f.window = q at *
  rcases cs with ⟨rfl, rfl, rfl⟩ | ⟨rfl, rfl, rfl⟩ | ⟨e1, e2, rfl, rfl⟩ | ⟨rfl, e3, rfl⟩ | ⟨rfl, e3, rfl⟩ | ⟨e1, e2, e3, rfl⟩
  all_goals
    go_enter Tryz.func143, Tryz.ntmps143
    go_wp2_with (first
      | (refine wpList_box_agg rfl 169 _ rfl g hg n rfl ?_; intro w1 h1 l1 s1)
      | (refine wpList_alloc_agg rfl 244 rfl (g + 1) s1 spanZ (allocS _) ?_; intro w2 h2 l2 s2; have H2 := (l2.block g (by omega)).trans h1; clear h1)
      | (refine wpList_alloc_agg rfl 244 rfl (g + 2) s2 spanZ (allocS _) ?_; intro w3 h3 l3 s3; have K3 : Hid (SpK g n w w3) := Lib.hid ⟨(l1.trans (l2.mono (by omega))).trans (l3.mono (by omega : g ≤ g + 2)), s3, (l3.block (g + 1) (by omega)).trans h2, (l3.block g (by omega)).trans H2⟩; clear H2 h2 l1 l2 l3 s1 s2)
      | (refine wpList_build_agg rfl 244 _ rfl span0 ?hb ?_; (case hb => kernel_rfl))
      | (refine wpList_store_agg rfl 244 _ _ rfl (g + 2) spanZ span0 rfl rfl h3 rfl (sizeS rfl) (ones_flat _) ?_; intro w4 hS fS sS; have K := Lib.hid (K3.out.keep fS sS); clear K3; obtain ⟨c0, c13⟩ := HC.out _ K.out.arg; clear h3 fS sS)
      | (refine wpList_store_part rfl 243 _ _ rfl (g + 2) 2 244 _ (two 1 8) rfl rfl hS (by decide +kernel) (by kernel_rfl) (ones_two _ _) ?_; clear hS c0 c13; intro w4 hS fS sS; replace K := Lib.hid (K.out.keep fS sS); obtain ⟨c0, c13⟩ := HC.out _ K.out.arg; clear fS sS)
      | (refine wpList_store_part rfl 243 _ _ rfl (g + 2) 4 244 _ (two 0 8) rfl rfl hS (by decide +kernel) (by kernel_rfl) (ones_two _ _) ?_; clear hS c0 c13; intro w4 hS fS sS; replace K := Lib.hid (K.out.keep fS sS); obtain ⟨c0, c13⟩ := HC.out _ K.out.arg; clear fS sS)
      | (refine wpList_store_part rfl 243 _ _ rfl (g + 2) 6 244 _ (two 1 8) rfl rfl hS (by decide +kernel) (by kernel_rfl) (ones_two _ _) ?_; clear hS c0 c13; intro w4 hS fS sS; replace K := Lib.hid (K.out.keep fS sS); obtain ⟨c0, c13⟩ := HC.out _ K.out.arg; clear fS sS)
      | (refine wpList_store_part rfl 243 _ _ rfl (g + 2) 28 244 _ (two 1 4) rfl rfl hS (by decide +kernel) (by kernel_rfl) (ones_two _ _) ?_; clear hS c0 c13; intro w4 hS fS sS; replace K := Lib.hid (K.out.keep fS sS); obtain ⟨c0, c13⟩ := HC.out _ K.out.arg; clear fS sS)
      | (rw [← HS.out] at hS; refine wpList_load_agg rfl 244 _ rfl (g + 2) rfl (spanV f) hS _ undS rfl (sizeS (len_spanV f)) ?_)
      | (refine wpList_store_agg rfl 244 _ _ rfl (g + 1) spanZ (spanV f) rfl rfl K.out.res rfl (sizeS (len_spanV f)) (ones_flat _) ?_; intro w5 h5 f5 s5))
    refine bodyPost_ret (v := .agg (aggV (spanV f))) (results_agg Tryz.results143 rfl (run_load_agg _ _ _ _ _ h5 undS rfl (sizeS (len_spanV f)))) rfl ⟨rfl, ?_⟩
    subst hg
    exact K.out.low.trans (f5.below (by rw [K.out.size]; omega) (fun j hj e => by omega))
end Go.Proofs.YtgnccpmkdgfjeaaGreat

namespace Go.Proofs.YtgnccpmkdgfjeaaGreat
set_option linter.unusedVariables false
open Go.ChangeShapes Go.WideShapes Go.ChangeAt Go.RowKit

theorem flat_two_at : ∀ (l : List (Int × Int)) (k : Nat) (p : Int × Int), l[k]? = some p → ((l.flatMap fun p => two p.1 p.2).drop (k * 2)).take 2 = two p.1 p.2
  | [], k, p, h => by simp at h
  | q :: l, 0, p, h => by simp at h; subst h; rfl
  | q :: l, k + 1, p, h => by
    have := flat_two_at l k p (by simpa using h)
    rw [List.flatMap_cons, show (k + 1) * 2 = (two q.1 q.2).length + k * 2 by simp [two]; omega, List.drop_append, List.drop_of_length_le (by omega : (two q.1 q.2).length ≤ (two q.1 q.2).length + k * 2), Nat.add_sub_cancel_left, List.nil_append]
    exact this
theorem index_span {f : Cnf} {k : Nat} {p : Int × Int} (hk : k < 16) (hp : f.spans[k]? = some p) (v : World) :
    (Instr.index 244 (.agg (aggV (spanV f))) (.int .i64 k)).run Tryz.prog v = .ok (.agg (aggV (two p.1 p.2))) v := by
  rw [run_index_aggs v _ 243 16 2 (spanV f) .i64 k undS (by kernel_rfl) (by kernel_rfl) hk]
  unfold spanV
  rw [flat_two_at _ _ _ hp]
theorem allocT (w : World) : (Instr.alloc 243 true (.tuple #[])).run Tryz.prog w = .ok (.pointer (some ⟨w.heap.size, 0, none⟩)) (w.alloc (vobj 243 (two 0 0))) := by kernel_rfl
theorem good_at (f : Cnf) (k : Nat) (hk : k < 16) : ∃ z p, f.L[k]? = some z ∧ f.spans[k]? = some p ∧ f.goods[k]? = some (decide (p.1 ≤ z ∧ z ≤ p.2)) := by
  have h1 : f.L[k]? = some (f.L[k]'(by rw [f.len_L]; exact hk)) := List.getElem?_eq_getElem _
  have h2 : f.spans[k]? = some (f.spans[k]'(by rw [f.len_spans]; exact hk)) := List.getElem?_eq_getElem _
  refine ⟨_, _, h1, h2, ?_⟩
  unfold Cnf.goods
  rw [List.getElem?_zipWith, h1, h2]
theorem L_cell {w : World} {g k : Nat} {f : Cnf} {z : Int} (h : w.heap[g]? = some (vobj 169 f.nums)) (hz : f.L[k]? = some z) : w.cell? ⟨g, k, none⟩ = some (.int .i64 z) :=
  vobj_cell h (by rw [f.nums_L, List.getElem?_map, hz]; rfl)

/-- A block of numbers as a row. -/
theorem row_u64 {w : World} {g : Nat} {ty : TypeId} {zs : List Int} (h : w.heap[g]? = some (.cells ⟨zs.map (Value.int .u64)⟩ ty)) (hm : zs.length ≤ maxLen) (hb : ∀ n ∈ zs, 0 ≤ n ∧ n ≤ 18446744073709551615) : Row .u64 w (some ⟨g, 0, none⟩) zs.length zs :=
  ⟨Nat.le_refl _, hm, .inr ⟨g, 0, rfl, fun j hj => by rw [Nat.zero_add, cell_of h]; simp [hj]⟩, fun n hn => WalkArith.wf_u64 ⟨(hb n hn).1, by have := (hb n hn).2; omega⟩⟩
theorem ret_wrong {f : Cnf} {i : Nat} (h : f.wrong = i + 1) : Ending.returned (.tuple #[.int .i64 ((i : Int) + 1), .int .i64 1]) = .returned (.tuple #[.int .i64 f.wrong, .int .i64 (Cnf.errOf f.wrong)]) := by
  rw [h]; simp [Cnf.errOf]

set_option maxRecDepth 100000 in
set_option maxHeartbeats 1000000 in
theorem first_any (f : Cnf) (w : World) :
    Calls Tryz.prog 84 #[.agg (aggV f.nums)] w fun r w' => r = .returned (.tuple #[.int .i64 f.wrong, .int .i64 (Cnf.errOf f.wrong)]) ∧ Below w.heap.size w w' := by
  obtain ⟨g, hg⟩ : ∃ g, w.heap.size = g := ⟨_, rfl⟩
  obtain ⟨n, hn⟩ : ∃ n, f.nums = n := ⟨_, rfl⟩
  have hsp := fun v => spans_any f v
  rw [hn] at hsp ⊢
  have HN := Lib.hid hn
  clear hn
  generalize hsv : spanV f = sv at *
  have HSV := Lib.hid hsv
  clear hsv
  have hlen : Hid (n.length = 16) := Lib.hid (by rw [← HN.out]; rfl)
  go_enter Tryz.func84, Tryz.ntmps84
  go_wp2_with (first
    | (refine wpList_box_agg rfl 169 _ rfl g hg n rfl ?_; intro w1 h1 l1 s1)
    | (refine wpList_load_agg rfl 169 _ rfl g rfl n h1 _ undF rfl (by rw [hlen.out]; kernel_rfl) ?_)
    | (go_at_call 143; refine (hsp _).mono ?_; rintro r w2 ⟨rfl, b2⟩; have B2 := Lib.hid (l1.trans (b2.mono (by omega : g ≤ w1.heap.size))); have H2 := Lib.hid (kb_below h1 b2); clear b2 h1 l1 s1))
  go_loopg [8] 16 (fun k v8 wr => ∃ i : Nat, i + k = 16 ∧ v8 = .int .i64 i ∧ (∀ j, j < i → f.goods[j]? = some true) ∧ wr.heap[g]? = some (vobj 169 n) ∧ Below g w wr)
  case atStart => exact ⟨0, by omega, rfl, fun j hj => by omega, H2.out, B2.out⟩
  case round =>
    obtain ⟨i, hik, rfl, hall, hN, hB⟩ := hrel
    have HA := Lib.hid hall
    have HB := Lib.hid hB
    have hgs := hB.size
    clear hall hB
    by_cases hi : i < 16
    · obtain ⟨z, ⟨lo, hm⟩, hz, hp, hgd⟩ := good_at f i hi
      have ix := fun v => index_span hi hp v
      rw [HSV.out] at ix
      have HZ := Lib.hid hz
      have HG := Lib.hid hgd
      obtain ⟨e, he⟩ : ∃ e, wr.heap.size = e := ⟨_, rfl⟩
      have hge : g < e := by rw [← he]; exact heap_lt hN
      clear hz hp hgd
      have cs : (decide (z < lo) = true) ∨ (decide (z < lo) = false ∧ decide (hm < z) = true) ∨ (decide (z < lo) = false ∧ decide (hm < z) = false) := by
        by_cases h1 : z < lo <;> by_cases h2 : hm < z <;> simp [h1, h2]
      rcases cs with h1 | ⟨h1, h2⟩ | ⟨h1, h2⟩
      all_goals
        go_wp2_with (first
          | (refine wpList_alloc_agg rfl 243 rfl e he (two 0 0) (allocT _) ?_; intro w3 h3 l3 s3; have hN3 := (l3.block g (by omega)).trans hN)
          | (refine wpList_store_agg rfl 243 _ _ rfl e (two 0 0) (two lo hm) rfl rfl h3 rfl (by kernel_rfl) (ones_two _ _) ?_; intro w4 h4 f4 s4;
             have cA : w4.cell? ⟨e, 0, none⟩ = some (.int .i64 lo) := vobj_cell h4 rfl;
             have cB : w4.cell? ⟨e, 1, none⟩ = some (.int .i64 hm) := vobj_cell h4 rfl;
             have hN4 := (f4.block g (by omega) (by omega)).trans hN3;
             have cZ : w4.cell? ⟨g, i, none⟩ = some (.int .i64 z) := L_cell (by rw [HN.out]; exact hN4) HZ.out;
             have N4 := Lib.hid hN4;
             have B4 := Lib.hid (HB.out.trans ((l3.mono (by omega : g ≤ e)).trans (f4.below (by omega : g ≤ w3.heap.size) (fun j hj e => by omega))));
             clear h4 hN4 hN3 h3 f4 l3 s3 s4))
        go_quiet (fail)
        go_wp2
      · go_ret2
        have hw : f.wrong = i + 1 := Cnf.firstF_at HA.out (by rw [HG.out]; simp at h1 ⊢; omega)
        exact ⟨ret_wrong hw, by subst hg; exact below_drewN B4.out _⟩
      · go_ret2
        have hw : f.wrong = i + 1 := Cnf.firstF_at HA.out (by rw [HG.out]; simp at h1 h2 ⊢; omega)
        exact ⟨ret_wrong hw, by subst hg; exact below_drewN B4.out _⟩
      · go_roundg (16 - (i + 1))
        case measure => omega
        case rel =>
          refine ⟨i + 1, by omega, by simp, fun j hj => ?_, N4.out, below_drewN B4.out _⟩
          by_cases hji : j < i
          · exact HA.out j hji
          · obtain rfl : j = i := by omega
            rw [HG.out]; simp at h1 h2 ⊢; omega
    · go_wp2
      go_ret2
      have hw : f.wrong = 0 := Cnf.firstF_all (fun j hj => HA.out j (by rw [f.len_goods] at hj; omega))
      exact ⟨by rw [hw]; rfl, by subst hg; exact HB.out⟩

set_option maxRecDepth 100000 in
set_option maxHeartbeats 1000000 in
theorem check_any (c : Cnf) (w : World) (hc : c.Fits) (n : Nat) (hn : c.bad = n) :
    Calls Tryz.prog 35 #[.agg (aggV c.vals)] w fun r w' => r = .returned (.tuple #[.int .i64 n, .int .i64 (Cnf.errOf n)]) ∧ Below w.heap.size w w' := by
  obtain ⟨g, hg⟩ : ∃ g, w.heap.size = g := ⟨_, rfl⟩
  obtain ⟨fs, hu⟩ := undC
  have hsz := sizeC c
  have hpu := fun v => put_any c v
  have hfi := fun v => first_any c.put v
  rw [Cnf.wrong_put hc, hn] at hfi
  have HP := Lib.hid hpu
  have HF := Lib.hid hfi
  have HU := Lib.hid hu
  have HZ := Lib.hid hsz
  clear hpu hfi hu hsz hn
  generalize c.vals = n0 at *
  generalize c.put.nums = n1 at *
  generalize Cnf.errOf n = e at *
  go_enter Tryz.func35, Tryz.ntmps35
  go_wp2_with (first
    | (refine wpList_box_agg rfl 24 _ rfl g hg n0 rfl ?_; intro w1 h1 l1 s1)
    | (refine wpList_load_agg rfl 24 _ rfl g rfl n0 h1 _ HU.out rfl HZ.out ?_)
    | (go_at_call 85; refine (HP.out _).mono ?_; rintro r w2 ⟨rfl, b2⟩; have B2 := Lib.hid (l1.trans (b2.mono (by omega : g ≤ w1.heap.size))); clear b2 h1 l1)
    | (go_at_call 84; refine (HF.out _).mono ?_; rintro r w3 ⟨rfl, b3⟩; have B3 := Lib.hid (B2.out.trans (b3.mono (by have := B2.out.size; omega))); clear b3))
  go_ret2
  exact ⟨rfl, by subst hg; exact B3.out⟩

end Go.Proofs.YtgnccpmkdgfjeaaGreat

namespace Go.Proofs.YtgnccpmkdgfjeaaGreat
set_option linter.unusedVariables false
set_option maxRecDepth 100000
open Go.ChangeShapes Go.WideShapes Go.ChangeAt Go.RowKit

def Cnf.most (c : Cnf) : Nat := if c.mode = 1 then c.pool.toNat else c.sem.toNat
def Cnf.que (c : Cnf) : Nat := if c.mode = 1 then c.queue.toNat else 0
/-- A new one. -/
def DS.new (c : Cnf) : DS := DS.none_ c c.most c.que
theorem Cnf.May.bulk {c : Cnf} (h : c.May) : c.Bulk c.most c.que := by
  have h0 := h.mode
  have h1 := h.pool
  have h2 := h.queue
  have h3 := h.sem
  unfold Cnf.Bulk Cnf.most Cnf.que
  by_cases e : c.mode = 1
  · rw [if_pos e] at h1 h2 ⊢
    rw [if_pos e]
    refine ⟨by omega, by omega, .inl ⟨e, by omega, by omega⟩⟩
  · rw [if_pos (by omega)] at h3
    rw [if_neg e, if_neg e]
    refine ⟨by omega, by omega, .inr ⟨by omega, by omega, rfl⟩⟩
theorem wpList_store_box {P : Program} {ops : Array Oper} {o : Oper} {a : Act} {w : World} {K : Act → World → Prop} {Q : Exit → Act → World → Prop} {E : Prop} (hg : o.guard = none) (ty : TypeId) (x : Operand) (ho : o.op = .box ty x) (vs : List Value) (hx : a.eval x = .agg (aggV vs))
    (h : K (a.put o.dst (.pointer (some ⟨w.heap.size, 0, none⟩))) (w.alloc (vobj ty vs))) : Stepping P ops o a w K Q E := by
  refine wanted_step hg ?_
  have hrun : (Instr.box ty (.agg (aggV vs))).run P w = .ok (.pointer (some ⟨w.heap.size, 0, none⟩)) (w.alloc (vobj ty vs)) := by
    simp [Instr.box, newVar, newRow, Value.cells, vobj]
  unfold Oper.wp
  simp [execOp, ho, hx, hrun, Result.andThen]
  exact h
theorem conf_cells {w : World} {g : Nat} {c : Cnf} (h : w.heap[g]? = some (vobj 24 c.vals)) : w.rangeAt g 0 c.vals ∧ w.cell? ⟨g, 11, none⟩ = some (.int .i64 c.buckets) ∧ w.cell? ⟨g, 12, none⟩ = some (.int .u64 c.width) ∧ w.cell? ⟨g, 4, none⟩ = some (.int .i64 c.fbMax) :=
  ⟨vobj_range h, vobj_cell h rfl, vobj_cell h rfl, vobj_cell h rfl⟩
set_option maxHeartbeats 2000000 in
theorem new_dbad (c : Cnf) (w : World) (hf : c.Fits) (hb : c.bad ≠ 0) : Calls Tryz.prog 11 #[.agg (aggV c.vals)] w fun r w' => r = .returned (.pointer none) ∧ Below w.heap.size w w' := by
  obtain ⟨g, hg⟩ : ∃ g, w.heap.size = g := ⟨_, rfl⟩
  obtain ⟨fs, hu⟩ := undC
  have HU := Lib.hid hu
  have he : Cnf.errOf c.bad = 1 := by unfold Cnf.errOf; rw [if_neg hb]
  have HE := Lib.hid he
  clear hu he hb
  go_enter Tryz.func11, Tryz.ntmps11
  go_wp2_with (first
    | (refine wpList_box_agg rfl 24 _ rfl g hg c.vals rfl ?_; intro w1 k1 l1 s1; have K1 := Lib.hid k1; have L1 : Hid (Below w.heap.size w w1) := Lib.hid (by rw [hg]; exact l1); clear k1 l1 s1)
    | (refine wpList_load_agg rfl 24 _ rfl g rfl c.vals ?hz _ HU.out rfl (sizeC c) ?_; (case hz => exact K1.out))
    | (go_at_call 35; refine (check_any c w1 hf c.bad rfl).mono ?_; rintro r w2 ⟨rfl, l2⟩; rw [HE.out]; have L2 : Hid (Below w.heap.size w w2) := Lib.hid (L1.out.trans (l2.mono L1.out.size)); clear l2))
  go_ret
  exact ⟨rfl, L2.out⟩
theorem dep_made {w : World} {db kb ub wb hb fb fm cm : Nat} {f : Fb} {c : Cnf} (k : w.heap[db]? = some (vobj 114 (depV ⟨db, kb, ub, f, wb, hb, fb, fm, cm⟩ c 0))) (b : Brk w kb (BK.ofC c)) (u : Bul w ub f (BU.none_ c.most c.que)) (wn : Win w wb c.B c.W 0 (fun _ _ => 0)) (hs : His w hb c.B c.W 0 (fun _ _ => 0)) (fa : Prm w fb fm c.fbMax.toNat []) (mp : MapV intK w cm 0 (fun _ => none))
    (n1 : f.m ≠ fm) (n2 : f.m ≠ cm) (n3 : fm ≠ cm) : DepM w ⟨db, kb, ub, f, wb, hb, fb, fm, cm⟩ (DB.F ⟨db, kb, ub, f, wb, hb, fb, fm, cm⟩) c (DS.new c) :=
  ⟨k, b, u, wn, hs, fa, ⟨_, mp, fun id _ => rfl⟩, List.nodup_nil, n1, n2, n3, fun _ h => h⟩
set_option maxHeartbeats 8000000 in
theorem new_dep (c : Cnf) (w : World) (hf : c.Fits) (hb : c.bad = 0) :
    Calls Tryz.prog 11 #[.agg (aggV c.vals)] w fun r w' => ∃ D : DB, r = .returned (ptr D.db) ∧ DepM w' D D.F c (DS.new c) ∧ Below w.heap.size w w' ∧ (∀ j, D.F j → w.heap.size ≤ j) := by
  obtain ⟨g, hg⟩ : ∃ g, w.heap.size = g := ⟨_, rfl⟩
  obtain ⟨fs, hu⟩ := undC
  have HU := Lib.hid hu
  have hm := Cnf.may_of hb
  have eB : c.buckets = (c.B : Int) := by have := hm.buckets; unfold Cnf.B; omega
  have eW : c.width = (c.W : Int) := by have := hm.width; unfold Cnf.W; omega
  have eF : c.fbMax = (c.fbMax.toNat : Int) := by have := hm.fbMax; omega
  have NW : Hid (∀ v, Calls Tryz.prog 38 #[.int .i64 c.buckets, .int .u64 c.width] v fun r w' => r = .returned (.pointer (some ⟨v.heap.size, 0, none⟩)) ∧ Win w' v.heap.size c.B c.W 0 (fun _ _ => 0) ∧ Below v.heap.size v w') :=
    Lib.hid (fun v => by rw [eB, eW]; exact new_win c.B c.W v (by have := hm.buckets; omega) (by have := hm.buckets; omega) (by have := hm.width; omega) (by have := hm.width; omega))
  have NH : Hid (∀ v, Calls Tryz.prog 39 #[.int .i64 c.buckets, .int .u64 c.width] v fun r w' => r = .returned (.pointer (some ⟨v.heap.size, 0, none⟩)) ∧ His w' v.heap.size c.B c.W 0 (fun _ _ => 0) ∧ Below v.heap.size v w') :=
    Lib.hid (fun v => by rw [eB, eW]; exact new_his c.B c.W v (by have := hm.buckets; omega) (by have := hm.buckets; omega) (by have := hm.width; omega) (by have := hm.width; omega))
  have NP : Hid (∀ v, Calls Tryz.prog 40 #[.int .i64 c.fbMax] v fun r w' => ∃ b, r = .returned (.pointer (some ⟨b, 0, none⟩)) ∧ ∃ m, Prm w' b m c.fbMax.toNat [] ∧ Below v.heap.size v w' ∧ v.heap.size ≤ b ∧ v.heap.size ≤ m) :=
    Lib.hid (fun v => by have := new_prm c.fbMax.toNat v (by have := hm.fbMax; omega); rw [← eF] at this; exact this)
  have NU : Hid (∀ v, Calls Tryz.prog 37 #[.agg (aggV c.vals)] v fun r w' => ∃ b, r = .returned (.pointer (some ⟨b, 0, none⟩)) ∧ ∃ f : Fb, Bul w' b f (BU.none_ c.most c.que) ∧ Below v.heap.size v w' ∧ v.heap.size ≤ b ∧ v.heap.size ≤ f.m ∧ v.heap.size ≤ f.rb) :=
    Lib.hid (fun v => new_bul c c.most c.que v hm.bulk)
  have he : Cnf.errOf c.bad = 0 := by unfold Cnf.errOf; rw [if_pos hb]
  have HE := Lib.hid he
  clear hu he hb eB eW eF hm
  go_enter Tryz.func11, Tryz.ntmps11
  go_wp2_with (first
    | (refine wpList_box_agg rfl 24 _ rfl g hg c.vals rfl ?_; intro w1 k1 l1 s1; have K1 := Lib.hid k1; have L1 : Hid (Below w.heap.size w w1) := Lib.hid (by rw [hg]; exact l1); clear k1 l1 s1)
    | (refine wpList_load_agg rfl 24 _ rfl g rfl c.vals ?hz _ HU.out rfl (sizeC c) ?_; (case hz => exact K1.out))
    | (go_at_call 35; refine (check_any c w1 hf c.bad rfl).mono ?_; rintro r w2 ⟨rfl, l2⟩; rw [HE.out]; have L2 : Hid (Below w.heap.size w w2) := Lib.hid (L1.out.trans (l2.mono L1.out.size)); have K2 := Lib.hid (kb_below K1.out l2); clear l2))
  have KD : Hid (w2.drew.heap[g]? = some (vobj 24 c.vals)) := K2
  have LD : Hid (Below w.heap.size w w2.drew) := Lib.hid (below_ali L2.out (drew_ali _))
  obtain ⟨wd, hwd⟩ : ∃ wd, w2.drew = wd := ⟨_, rfl⟩
  rw [hwd] at KD LD
  have HWD := Lib.hid hwd
  have hc0 := conf_cells KD.out
  have hmm := @run_makeMap Tryz.prog
  clear hwd K1 K2 L1 L2
  refine wp_region_held_drew (S := fun wx => wx.rangeAt g 0 c.vals ∧ wx.cell? ⟨g, 11, none⟩ = some (.int .i64 c.buckets) ∧ wx.cell? ⟨g, 12, none⟩ = some (.int .u64 c.width) ∧ wx.cell? ⟨g, 4, none⟩ = some (.int .i64 c.fbMax)) (by kernel_rfl) (by rw [HWD.out]; exact hc0) (fun hHeld => ?_)
  rw [HWD.out] at hHeld ⊢
  refine wpAnyH_take (i := 0) (oi := ⟨_, _, _, _, _, _⟩) (v := .agg (aggV c.vals)) rfl (by kernel_rfl) (by kernel_rfl) (by kernel_rfl) (fun _ _ _ h => h) (yieldsIf_load_mid (by rfl) 24 (.tmp 1) rfl g 0 rfl c.vals _ (fun v hv => hv.1) HU.out rfl (sizeC c)) (by assumption) ?_
  try go_frame
  refine wpAnyH_take (i := 2) (oi := ⟨_, _, _, _, _, _⟩) (v := .agg (aggV c.vals)) rfl (by kernel_rfl) (by kernel_rfl) (by kernel_rfl) (fun _ _ _ h => h) (yieldsIf_load_mid (by rfl) 24 (.tmp 1) rfl g 0 rfl c.vals _ (fun v hv => hv.1) HU.out rfl (sizeC c)) (by assumption) ?_
  try go_frame
  refine wpAnyH_take (i := 4) (oi := ⟨_, _, _, _, _, _⟩) (v := .agg (aggV c.vals)) rfl (by kernel_rfl) (by kernel_rfl) (by kernel_rfl) (fun _ _ _ h => h) (yieldsIf_load_mid (by rfl) 24 (.tmp 1) rfl g 0 rfl c.vals _ (fun v hv => hv.1) HU.out rfl (sizeC c)) (by assumption) ?_
  try go_frame
  refine wpAnyH_take (i := 5) (oi := ⟨_, _, _, _, _, _⟩) (v := ?_) rfl (by kernel_rfl) (by kernel_rfl) (by kernel_rfl) (fun _ _ _ h => h) (Or.inl ⟨by rfl, ?_⟩) (by assumption) ?_
  rotate_left
  · intro w hSw; (try dsimp only at hSw); go_simp; try (with_reducible rfl)
  try go_frame
  refine wpAnyH_take (i := 6) (oi := ⟨_, _, _, _, _, _⟩) (v := ?_) rfl (by kernel_rfl) (by kernel_rfl) (by kernel_rfl) (fun _ _ _ h => h) (Or.inl ⟨by rfl, ?_⟩) (by assumption) ?_
  rotate_left
  · intro w hSw; (try dsimp only at hSw); go_simp; try (with_reducible rfl)
  try go_frame
  refine wpAnyH_take (i := 7) (oi := ⟨_, _, _, _, _, _⟩) (v := ?_) rfl (by kernel_rfl) (by kernel_rfl) (by kernel_rfl) (fun _ _ _ h => h) (Or.inl ⟨by rfl, ?_⟩) (by assumption) ?_
  rotate_left
  · intro w hSw; (try dsimp only at hSw); go_simp; try (with_reducible rfl)
  try go_frame
  refine wpAnyH_take (i := 8) (oi := ⟨_, _, _, _, _, _⟩) (v := ?_) rfl (by kernel_rfl) (by kernel_rfl) (by kernel_rfl) (fun _ _ _ h => h) (Or.inl ⟨by rfl, ?_⟩) (by assumption) ?_
  rotate_left
  · intro w hSw; (try dsimp only at hSw); go_simp; try (with_reducible rfl)
  try go_frame
  refine wpAnyH_take (i := 10) (oi := ⟨_, _, _, _, _, _⟩) (v := ?_) rfl (by kernel_rfl) (by kernel_rfl) (by kernel_rfl) (fun _ _ _ h => h) (Or.inl ⟨by rfl, ?_⟩) (by assumption) ?_
  rotate_left
  · intro w hSw; (try dsimp only at hSw); go_simp; try (with_reducible rfl)
  try go_frame
  refine wpAnyH_take (i := 11) (oi := ⟨_, _, _, _, _, _⟩) (v := ?_) rfl (by kernel_rfl) (by kernel_rfl) (by kernel_rfl) (fun _ _ _ h => h) (Or.inl ⟨by rfl, ?_⟩) (by assumption) ?_
  rotate_left
  · intro w hSw; (try dsimp only at hSw); go_simp; try (with_reducible rfl)
  try go_frame
  refine wpAnyH_take (i := 12) (oi := ⟨_, _, _, _, _, _⟩) (v := ?_) rfl (by kernel_rfl) (by kernel_rfl) (by kernel_rfl) (fun _ _ _ h => h) (Or.inl ⟨by rfl, ?_⟩) (by assumption) ?_
  rotate_left
  · intro w hSw; (try dsimp only at hSw); go_simp; try (with_reducible rfl)
  try go_frame
  refine wpAnyH_take (i := 13) (oi := ⟨_, _, _, _, _, _⟩) (v := ?_) rfl (by kernel_rfl) (by kernel_rfl) (by kernel_rfl) (fun _ _ _ h => h) (Or.inl ⟨by rfl, ?_⟩) (by assumption) ?_
  rotate_left
  · intro w hSw; (try dsimp only at hSw); go_simp; try (with_reducible rfl)
  try go_frame
  refine wpAnyH_take (i := 15) (oi := ⟨_, _, _, _, _, _⟩) (v := ?_) rfl (by kernel_rfl) (by kernel_rfl) (by kernel_rfl) (fun _ _ _ h => h) (Or.inl ⟨by rfl, ?_⟩) (by assumption) ?_
  rotate_left
  · intro w hSw; (try dsimp only at hSw); go_simp; try (with_reducible rfl)
  try go_frame
  refine wpAnyH_take (i := 16) (oi := ⟨_, _, _, _, _, _⟩) (v := ?_) rfl (by kernel_rfl) (by kernel_rfl) (by kernel_rfl) (fun _ _ _ h => h) (Or.inl ⟨by rfl, ?_⟩) (by assumption) ?_
  rotate_left
  · intro w hSw; (try dsimp only at hSw); go_simp; try (with_reducible rfl)
  try go_frame
  refine wpAnyH_ready (rs := [1, 18]) (by kernel_rfl) (by simp) ?_
  refine ready_cons (i := 1) (o := ⟨_, _, _, _, _, _⟩) rfl ?_ (ready_cons (i := 18) (o := ⟨_, _, _, _, _, _⟩) rfl ?_ AllReadyH.nil)
  · intro K hK
    refine call_step (f := 36) (args := #[.agg (aggV c.vals)]) rfl (by kernel_rfl) ?_
    refine (new_brk c wd).mono ?_
    rintro r v1 ⟨kb, rfl, hkb, xb, lv⟩
    refine ⟨_, rfl, ?_⟩
    have KDv1 := Lib.hid (kb_below KD.out lv)
    have LDv1 : Hid (Below w.heap.size w v1) := Lib.hid (LD.out.trans (lv.mono LD.out.size))
    have Zv1 : Hid (wd.heap.size ≤ v1.heap.size) := Lib.hid lv.size
    have BKv1 := Lib.hid xb
    have P1 : Hid (wd.heap.size ≤ kb) := Lib.hid hkb
    clear xb hkb
    have hcv1 := conf_cells KDv1.out
    refine hK.out _ _ hcv1 (fun hHeld => ?_)
    clear hK K lv
    try go_frame
    refine wpAnyH_ready (rs := [3, 18]) (by kernel_rfl) (by simp) ?_
    refine ready_cons (i := 3) (o := ⟨_, _, _, _, _, _⟩) rfl ?_ (ready_cons (i := 18) (o := ⟨_, _, _, _, _, _⟩) rfl ?_ AllReadyH.nil)
    · intro K hK
      refine call_step (f := 37) (args := #[.agg (aggV c.vals)]) rfl (by kernel_rfl) ?_
      refine (NU.out v1).mono ?_
      rintro r v3 ⟨ub, rfl, f, xu, lv, hub, hfm, hrb⟩
      refine ⟨_, rfl, ?_⟩
      have KDv3 := Lib.hid (kb_below KDv1.out lv)
      have LDv3 : Hid (Below w.heap.size w v3) := Lib.hid (LDv1.out.trans (lv.mono LDv1.out.size))
      have Zv3 : Hid (v1.heap.size ≤ v3.heap.size) := Lib.hid lv.size
      have BKv3 := Lib.hid (BKv1.out.below lv)
      have UBv3 := Lib.hid xu
      have P3 : Hid ((v1.heap.size ≤ f.m ∧ v1.heap.size ≤ f.rb) ∧ f.m < v3.heap.size) := Lib.hid ⟨⟨hfm, hrb⟩, xu.prm.mp.lt⟩
      clear xu hub hfm hrb
      have hcv3 := conf_cells KDv3.out
      refine hK.out _ _ hcv3 (fun hHeld => ?_)
      clear hK K lv
      try go_frame
      refine wpAnyH_ready (rs := [9, 18]) (by kernel_rfl) (by simp) ?_
      refine ready_cons (i := 9) (o := ⟨_, _, _, _, _, _⟩) rfl ?_ (ready_cons (i := 18) (o := ⟨_, _, _, _, _, _⟩) rfl ?_ AllReadyH.nil)
      · intro K hK
        refine call_step (f := 38) (args := #[.int .i64 c.buckets, .int .u64 c.width]) rfl (by kernel_rfl) ?_
        refine (NW.out v3).mono ?_
        rintro r v9 ⟨rfl, xw, lv⟩
        refine ⟨_, rfl, ?_⟩
        obtain ⟨wb, hwb⟩ : ∃ wb, v3.heap.size = wb := ⟨_, rfl⟩
        rw [hwb] at xw ⊢
        have KDv9 := Lib.hid (kb_below KDv3.out lv)
        have LDv9 : Hid (Below w.heap.size w v9) := Lib.hid (LDv3.out.trans (lv.mono LDv3.out.size))
        have Zv9 : Hid (v3.heap.size ≤ v9.heap.size) := Lib.hid lv.size
        have BKv9 := Lib.hid (BKv3.out.below lv)
        have UBv9 := Lib.hid (UBv3.out.below lv)
        have WNv9 := Lib.hid xw
        have P9 : Hid (v3.heap.size ≤ wb) := Lib.hid (by omega)
        clear xw hwb
        have hcv9 := conf_cells KDv9.out
        refine hK.out _ _ hcv9 (fun hHeld => ?_)
        clear hK K lv
        try go_frame
        refine wpAnyH_ready (rs := [14, 18]) (by kernel_rfl) (by simp) ?_
        refine ready_cons (i := 14) (o := ⟨_, _, _, _, _, _⟩) rfl ?_ (ready_cons (i := 18) (o := ⟨_, _, _, _, _, _⟩) rfl ?_ AllReadyH.nil)
        · intro K hK
          refine call_step (f := 39) (args := #[.int .i64 c.buckets, .int .u64 c.width]) rfl (by kernel_rfl) ?_
          refine (NH.out v9).mono ?_
          rintro r v14 ⟨rfl, xw, lv⟩
          refine ⟨_, rfl, ?_⟩
          obtain ⟨hb, hwb⟩ : ∃ hb, v9.heap.size = hb := ⟨_, rfl⟩
          rw [hwb] at xw ⊢
          have KDv14 := Lib.hid (kb_below KDv9.out lv)
          have LDv14 : Hid (Below w.heap.size w v14) := Lib.hid (LDv9.out.trans (lv.mono LDv9.out.size))
          have Zv14 : Hid (v9.heap.size ≤ v14.heap.size) := Lib.hid lv.size
          have BKv14 := Lib.hid (BKv9.out.below lv)
          have UBv14 := Lib.hid (UBv9.out.below lv)
          have WNv14 := Lib.hid (WNv9.out.below lv)
          have HSv14 := Lib.hid xw
          have P14 : Hid (v9.heap.size ≤ hb) := Lib.hid (by omega)
          clear xw hwb
          have hcv14 := conf_cells KDv14.out
          refine hK.out _ _ hcv14 (fun hHeld => ?_)
          clear hK K lv
          try go_frame
          refine wpAnyH_ready (rs := [17, 18]) (by kernel_rfl) (by simp) ?_
          refine ready_cons (i := 17) (o := ⟨_, _, _, _, _, _⟩) rfl ?_ (ready_cons (i := 18) (o := ⟨_, _, _, _, _, _⟩) rfl ?_ AllReadyH.nil)
          · intro K hK
            refine call_step (f := 40) (args := #[.int .i64 c.fbMax]) rfl (by kernel_rfl) ?_
            refine (NP.out v14).mono ?_
            rintro r v17 ⟨fb, rfl, fm, xp, lv, hfb, hfm⟩
            refine ⟨_, rfl, ?_⟩
            have KDv17 := Lib.hid (kb_below KDv14.out lv)
            have LDv17 : Hid (Below w.heap.size w v17) := Lib.hid (LDv14.out.trans (lv.mono LDv14.out.size))
            have Zv17 : Hid (v14.heap.size ≤ v17.heap.size) := Lib.hid lv.size
            have BKv17 := Lib.hid (BKv14.out.below lv)
            have UBv17 := Lib.hid (UBv14.out.below lv)
            have WNv17 := Lib.hid (WNv14.out.below lv)
            have HSv17 := Lib.hid (HSv14.out.below lv)
            have FAv17 := Lib.hid xp
            have P17 : Hid (v14.heap.size ≤ fm ∧ fm < v17.heap.size) := Lib.hid ⟨hfm, xp.mp.lt⟩
            clear xp hfb hfm
            have hcv17 := conf_cells KDv17.out
            refine hK.out _ _ hcv17 (fun hHeld => ?_)
            clear hK K lv
            try go_frame
            refine wpAnyH_ready (rs := [18]) (by kernel_rfl) (by simp) ?_
            refine ready_cons (i := 18) (o := ⟨_, _, _, _, _, _⟩) rfl ?_ AllReadyH.nil
            intro K hK
            constructor
            go_simp
            have xm := mapV_new intK v17
            have lv := below_alloc v17 (.map #[] 0)
            have hz18 : (v17.alloc (.map #[] 0)).heap.size = v17.heap.size + 1 := by simp
            obtain ⟨v18, hv18⟩ : ∃ v18, v17.alloc (.map #[] 0) = v18 := ⟨_, rfl⟩
            obtain ⟨cm, hcm⟩ : ∃ cm, v17.heap.size = cm := ⟨_, rfl⟩
            rw [hv18] at xm lv hz18 ⊢
            rw [hcm] at xm ⊢
            have KDv18 := Lib.hid (kb_below KDv17.out lv)
            have LDv18 : Hid (Below w.heap.size w v18) := Lib.hid (LDv17.out.trans (lv.mono LDv17.out.size))
            have Zv18 : Hid (v17.heap.size ≤ v18.heap.size) := Lib.hid lv.size
            have BKv18 := Lib.hid (BKv17.out.below lv)
            have UBv18 := Lib.hid (UBv17.out.below lv)
            have WNv18 := Lib.hid (WNv17.out.below lv)
            have HSv18 := Lib.hid (HSv17.out.below lv)
            have FAv18 := Lib.hid (FAv17.out.below lv)
            have MPv18 := Lib.hid xm
            have P18 : Hid (v17.heap.size = cm ∧ v18.heap.size = cm + 1) := Lib.hid ⟨hcm, by omega⟩
            clear xm hv18 hcm hz18
            have hcv18 := conf_cells KDv18.out
            refine hK.out _ _ hcv18 (fun hHeld => ?_)
            clear hK K lv
            try go_frame
            refine wpAnyH_take (i := 19) (oi := ⟨_, _, _, _, _, _⟩) (v := .agg (aggV (depV ⟨0, kb, ub, f, wb, hb, fb, fm, cm⟩ c 0))) rfl (by kernel_rfl) (by kernel_rfl) (by kernel_rfl) (fun _ _ _ h => h) (Or.inl ⟨by rfl, fun wx _ => by kernel_rfl⟩) (by assumption) ?_
            try go_frame
            refine wpAnyH_ready (rs := [20]) (by kernel_rfl) (by simp) ?_
            refine ready_cons (i := 20) (o := ⟨_, _, _, _, _, _⟩) rfl ?_ AllReadyH.nil
            intro K hK
            refine wpList_store_box rfl 114 _ rfl (depV ⟨v18.heap.size, kb, ub, f, wb, hb, fb, fm, cm⟩ c 0) rfl ?_
            have lv := below_alloc v18 (vobj 114 (depV ⟨v18.heap.size, kb, ub, f, wb, hb, fb, fm, cm⟩ c 0))
            have k20 := heap_alloc_at v18 (vobj 114 (depV ⟨v18.heap.size, kb, ub, f, wb, hb, fb, fm, cm⟩ c 0))
            obtain ⟨v20, hv20⟩ : ∃ v20, v18.alloc (vobj 114 (depV ⟨v18.heap.size, kb, ub, f, wb, hb, fb, fm, cm⟩ c 0)) = v20 := ⟨_, rfl⟩
            rw [hv20] at lv k20 ⊢
            obtain ⟨db, hdb⟩ : ∃ db, v18.heap.size = db := ⟨_, rfl⟩
            rw [hdb] at k20 ⊢
            have KDv20 := Lib.hid (kb_below KDv18.out lv)
            have LDv20 : Hid (Below w.heap.size w v20) := Lib.hid (LDv18.out.trans (lv.mono LDv18.out.size))
            have Zv20 : Hid (v18.heap.size ≤ v20.heap.size) := Lib.hid lv.size
            have BKv20 := Lib.hid (BKv18.out.below lv)
            have UBv20 := Lib.hid (UBv18.out.below lv)
            have WNv20 := Lib.hid (WNv18.out.below lv)
            have HSv20 := Lib.hid (HSv18.out.below lv)
            have FAv20 := Lib.hid (FAv18.out.below lv)
            have MPv20 := Lib.hid (MPv18.out.keep (lv.block _ MPv18.out.lt))
            have K20 := Lib.hid k20
            have P20 : Hid (v18.heap.size ≤ db) := Lib.hid (by omega)
            clear k20 hv20 hdb
            have hcv20 := conf_cells KDv20.out
            refine hK.out _ _ hcv20 (fun hHeld => ?_)
            clear hK K lv
            try go_frame
            refine wpAnyH_take (i := 21) (oi := ⟨_, _, _, _, _, _⟩) (v := ?_) rfl (by kernel_rfl) (by kernel_rfl) (by kernel_rfl) (fun _ _ _ h => h) (Or.inl ⟨by rfl, ?_⟩) (by assumption) ?_
            rotate_left
            · intro w hSw; (try dsimp only at hSw); go_simp; try (with_reducible rfl)
            try go_frame
            refine wpAnyH_done (by kernel_rfl) ?_ _
            go_wp2
            go_ret
            have zs := And.intro LD.out.size (And.intro Zv1.out ( And.intro Zv3.out ( And.intro Zv9.out ( And.intro Zv14.out ( And.intro Zv17.out ( And.intro Zv18.out ( And.intro Zv20.out (trivial))))))))
            exact ⟨⟨db, kb, ub, f, wb, hb, fb, fm, cm⟩, rfl, dep_made K20.out BKv20.out UBv20.out WNv20.out HSv20.out FAv20.out MPv20.out (by have := P3.out; have := P17.out; omega) (by have := P3.out; have := P18.out; omega) (by have := P17.out; have := P18.out; omega), LDv20.out, fun j hj => by have p1 := P1.out; have p3 := P3.out; have p9 := P9.out; have p14 := P14.out; have p17 := P17.out; have p18 := P18.out; have p20 := P20.out; rcases hj with e | e | (e | e) | e | e | e | e <;> simp only at e <;> omega⟩
          · intro K hK
            constructor
            go_simp
            have xm := mapV_new intK v14
            have lv := below_alloc v14 (.map #[] 0)
            have hz18 : (v14.alloc (.map #[] 0)).heap.size = v14.heap.size + 1 := by simp
            obtain ⟨v18, hv18⟩ : ∃ v18, v14.alloc (.map #[] 0) = v18 := ⟨_, rfl⟩
            obtain ⟨cm, hcm⟩ : ∃ cm, v14.heap.size = cm := ⟨_, rfl⟩
            rw [hv18] at xm lv hz18 ⊢
            rw [hcm] at xm ⊢
            have KDv18 := Lib.hid (kb_below KDv14.out lv)
            have LDv18 : Hid (Below w.heap.size w v18) := Lib.hid (LDv14.out.trans (lv.mono LDv14.out.size))
            have Zv18 : Hid (v14.heap.size ≤ v18.heap.size) := Lib.hid lv.size
            have BKv18 := Lib.hid (BKv14.out.below lv)
            have UBv18 := Lib.hid (UBv14.out.below lv)
            have WNv18 := Lib.hid (WNv14.out.below lv)
            have HSv18 := Lib.hid (HSv14.out.below lv)
            have MPv18 := Lib.hid xm
            have P18 : Hid (v14.heap.size = cm ∧ v18.heap.size = cm + 1) := Lib.hid ⟨hcm, by omega⟩
            clear xm hv18 hcm hz18
            have hcv18 := conf_cells KDv18.out
            refine hK.out _ _ hcv18 (fun hHeld => ?_)
            clear hK K lv
            try go_frame
            refine wpAnyH_ready (rs := [17]) (by kernel_rfl) (by simp) ?_
            refine ready_cons (i := 17) (o := ⟨_, _, _, _, _, _⟩) rfl ?_ AllReadyH.nil
            intro K hK
            refine call_step (f := 40) (args := #[.int .i64 c.fbMax]) rfl (by kernel_rfl) ?_
            refine (NP.out v18).mono ?_
            rintro r v17 ⟨fb, rfl, fm, xp, lv, hfb, hfm⟩
            refine ⟨_, rfl, ?_⟩
            have KDv17 := Lib.hid (kb_below KDv18.out lv)
            have LDv17 : Hid (Below w.heap.size w v17) := Lib.hid (LDv18.out.trans (lv.mono LDv18.out.size))
            have Zv17 : Hid (v18.heap.size ≤ v17.heap.size) := Lib.hid lv.size
            have BKv17 := Lib.hid (BKv18.out.below lv)
            have UBv17 := Lib.hid (UBv18.out.below lv)
            have WNv17 := Lib.hid (WNv18.out.below lv)
            have HSv17 := Lib.hid (HSv18.out.below lv)
            have MPv17 := Lib.hid (MPv18.out.keep (lv.block _ MPv18.out.lt))
            have FAv17 := Lib.hid xp
            have P17 : Hid (v18.heap.size ≤ fm ∧ fm < v17.heap.size) := Lib.hid ⟨hfm, xp.mp.lt⟩
            clear xp hfb hfm
            have hcv17 := conf_cells KDv17.out
            refine hK.out _ _ hcv17 (fun hHeld => ?_)
            clear hK K lv
            try go_frame
            refine wpAnyH_take (i := 19) (oi := ⟨_, _, _, _, _, _⟩) (v := .agg (aggV (depV ⟨0, kb, ub, f, wb, hb, fb, fm, cm⟩ c 0))) rfl (by kernel_rfl) (by kernel_rfl) (by kernel_rfl) (fun _ _ _ h => h) (Or.inl ⟨by rfl, fun wx _ => by kernel_rfl⟩) (by assumption) ?_
            try go_frame
            refine wpAnyH_ready (rs := [20]) (by kernel_rfl) (by simp) ?_
            refine ready_cons (i := 20) (o := ⟨_, _, _, _, _, _⟩) rfl ?_ AllReadyH.nil
            intro K hK
            refine wpList_store_box rfl 114 _ rfl (depV ⟨v17.heap.size, kb, ub, f, wb, hb, fb, fm, cm⟩ c 0) rfl ?_
            have lv := below_alloc v17 (vobj 114 (depV ⟨v17.heap.size, kb, ub, f, wb, hb, fb, fm, cm⟩ c 0))
            have k20 := heap_alloc_at v17 (vobj 114 (depV ⟨v17.heap.size, kb, ub, f, wb, hb, fb, fm, cm⟩ c 0))
            obtain ⟨v20, hv20⟩ : ∃ v20, v17.alloc (vobj 114 (depV ⟨v17.heap.size, kb, ub, f, wb, hb, fb, fm, cm⟩ c 0)) = v20 := ⟨_, rfl⟩
            rw [hv20] at lv k20 ⊢
            obtain ⟨db, hdb⟩ : ∃ db, v17.heap.size = db := ⟨_, rfl⟩
            rw [hdb] at k20 ⊢
            have KDv20 := Lib.hid (kb_below KDv17.out lv)
            have LDv20 : Hid (Below w.heap.size w v20) := Lib.hid (LDv17.out.trans (lv.mono LDv17.out.size))
            have Zv20 : Hid (v17.heap.size ≤ v20.heap.size) := Lib.hid lv.size
            have BKv20 := Lib.hid (BKv17.out.below lv)
            have UBv20 := Lib.hid (UBv17.out.below lv)
            have WNv20 := Lib.hid (WNv17.out.below lv)
            have HSv20 := Lib.hid (HSv17.out.below lv)
            have MPv20 := Lib.hid (MPv17.out.keep (lv.block _ MPv17.out.lt))
            have FAv20 := Lib.hid (FAv17.out.below lv)
            have K20 := Lib.hid k20
            have P20 : Hid (v17.heap.size ≤ db) := Lib.hid (by omega)
            clear k20 hv20 hdb
            have hcv20 := conf_cells KDv20.out
            refine hK.out _ _ hcv20 (fun hHeld => ?_)
            clear hK K lv
            try go_frame
            refine wpAnyH_take (i := 21) (oi := ⟨_, _, _, _, _, _⟩) (v := ?_) rfl (by kernel_rfl) (by kernel_rfl) (by kernel_rfl) (fun _ _ _ h => h) (Or.inl ⟨by rfl, ?_⟩) (by assumption) ?_
            rotate_left
            · intro w hSw; (try dsimp only at hSw); go_simp; try (with_reducible rfl)
            try go_frame
            refine wpAnyH_done (by kernel_rfl) ?_ _
            go_wp2
            go_ret
            have zs := And.intro LD.out.size (And.intro Zv1.out ( And.intro Zv3.out ( And.intro Zv9.out ( And.intro Zv14.out ( And.intro Zv17.out ( And.intro Zv18.out ( And.intro Zv20.out (trivial))))))))
            exact ⟨⟨db, kb, ub, f, wb, hb, fb, fm, cm⟩, rfl, dep_made K20.out BKv20.out UBv20.out WNv20.out HSv20.out FAv20.out MPv20.out (by have := P3.out; have := P17.out; omega) (by have := P3.out; have := P18.out; omega) (by have := P17.out; have := P18.out; omega), LDv20.out, fun j hj => by have p1 := P1.out; have p3 := P3.out; have p9 := P9.out; have p14 := P14.out; have p17 := P17.out; have p18 := P18.out; have p20 := P20.out; rcases hj with e | e | (e | e) | e | e | e | e <;> simp only at e <;> omega⟩
        · intro K hK
          constructor
          go_simp
          have xm := mapV_new intK v9
          have lv := below_alloc v9 (.map #[] 0)
          have hz18 : (v9.alloc (.map #[] 0)).heap.size = v9.heap.size + 1 := by simp
          obtain ⟨v18, hv18⟩ : ∃ v18, v9.alloc (.map #[] 0) = v18 := ⟨_, rfl⟩
          obtain ⟨cm, hcm⟩ : ∃ cm, v9.heap.size = cm := ⟨_, rfl⟩
          rw [hv18] at xm lv hz18 ⊢
          rw [hcm] at xm ⊢
          have KDv18 := Lib.hid (kb_below KDv9.out lv)
          have LDv18 : Hid (Below w.heap.size w v18) := Lib.hid (LDv9.out.trans (lv.mono LDv9.out.size))
          have Zv18 : Hid (v9.heap.size ≤ v18.heap.size) := Lib.hid lv.size
          have BKv18 := Lib.hid (BKv9.out.below lv)
          have UBv18 := Lib.hid (UBv9.out.below lv)
          have WNv18 := Lib.hid (WNv9.out.below lv)
          have MPv18 := Lib.hid xm
          have P18 : Hid (v9.heap.size = cm ∧ v18.heap.size = cm + 1) := Lib.hid ⟨hcm, by omega⟩
          clear xm hv18 hcm hz18
          have hcv18 := conf_cells KDv18.out
          refine hK.out _ _ hcv18 (fun hHeld => ?_)
          clear hK K lv
          try go_frame
          refine wpAnyH_ready (rs := [14]) (by kernel_rfl) (by simp) ?_
          refine ready_cons (i := 14) (o := ⟨_, _, _, _, _, _⟩) rfl ?_ AllReadyH.nil
          intro K hK
          refine call_step (f := 39) (args := #[.int .i64 c.buckets, .int .u64 c.width]) rfl (by kernel_rfl) ?_
          refine (NH.out v18).mono ?_
          rintro r v14 ⟨rfl, xw, lv⟩
          refine ⟨_, rfl, ?_⟩
          obtain ⟨hb, hwb⟩ : ∃ hb, v18.heap.size = hb := ⟨_, rfl⟩
          rw [hwb] at xw ⊢
          have KDv14 := Lib.hid (kb_below KDv18.out lv)
          have LDv14 : Hid (Below w.heap.size w v14) := Lib.hid (LDv18.out.trans (lv.mono LDv18.out.size))
          have Zv14 : Hid (v18.heap.size ≤ v14.heap.size) := Lib.hid lv.size
          have BKv14 := Lib.hid (BKv18.out.below lv)
          have UBv14 := Lib.hid (UBv18.out.below lv)
          have WNv14 := Lib.hid (WNv18.out.below lv)
          have MPv14 := Lib.hid (MPv18.out.keep (lv.block _ MPv18.out.lt))
          have HSv14 := Lib.hid xw
          have P14 : Hid (v18.heap.size ≤ hb) := Lib.hid (by omega)
          clear xw hwb
          have hcv14 := conf_cells KDv14.out
          refine hK.out _ _ hcv14 (fun hHeld => ?_)
          clear hK K lv
          try go_frame
          refine wpAnyH_ready (rs := [17]) (by kernel_rfl) (by simp) ?_
          refine ready_cons (i := 17) (o := ⟨_, _, _, _, _, _⟩) rfl ?_ AllReadyH.nil
          intro K hK
          refine call_step (f := 40) (args := #[.int .i64 c.fbMax]) rfl (by kernel_rfl) ?_
          refine (NP.out v14).mono ?_
          rintro r v17 ⟨fb, rfl, fm, xp, lv, hfb, hfm⟩
          refine ⟨_, rfl, ?_⟩
          have KDv17 := Lib.hid (kb_below KDv14.out lv)
          have LDv17 : Hid (Below w.heap.size w v17) := Lib.hid (LDv14.out.trans (lv.mono LDv14.out.size))
          have Zv17 : Hid (v14.heap.size ≤ v17.heap.size) := Lib.hid lv.size
          have BKv17 := Lib.hid (BKv14.out.below lv)
          have UBv17 := Lib.hid (UBv14.out.below lv)
          have WNv17 := Lib.hid (WNv14.out.below lv)
          have MPv17 := Lib.hid (MPv14.out.keep (lv.block _ MPv14.out.lt))
          have HSv17 := Lib.hid (HSv14.out.below lv)
          have FAv17 := Lib.hid xp
          have P17 : Hid (v14.heap.size ≤ fm ∧ fm < v17.heap.size) := Lib.hid ⟨hfm, xp.mp.lt⟩
          clear xp hfb hfm
          have hcv17 := conf_cells KDv17.out
          refine hK.out _ _ hcv17 (fun hHeld => ?_)
          clear hK K lv
          try go_frame
          refine wpAnyH_take (i := 19) (oi := ⟨_, _, _, _, _, _⟩) (v := .agg (aggV (depV ⟨0, kb, ub, f, wb, hb, fb, fm, cm⟩ c 0))) rfl (by kernel_rfl) (by kernel_rfl) (by kernel_rfl) (fun _ _ _ h => h) (Or.inl ⟨by rfl, fun wx _ => by kernel_rfl⟩) (by assumption) ?_
          try go_frame
          refine wpAnyH_ready (rs := [20]) (by kernel_rfl) (by simp) ?_
          refine ready_cons (i := 20) (o := ⟨_, _, _, _, _, _⟩) rfl ?_ AllReadyH.nil
          intro K hK
          refine wpList_store_box rfl 114 _ rfl (depV ⟨v17.heap.size, kb, ub, f, wb, hb, fb, fm, cm⟩ c 0) rfl ?_
          have lv := below_alloc v17 (vobj 114 (depV ⟨v17.heap.size, kb, ub, f, wb, hb, fb, fm, cm⟩ c 0))
          have k20 := heap_alloc_at v17 (vobj 114 (depV ⟨v17.heap.size, kb, ub, f, wb, hb, fb, fm, cm⟩ c 0))
          obtain ⟨v20, hv20⟩ : ∃ v20, v17.alloc (vobj 114 (depV ⟨v17.heap.size, kb, ub, f, wb, hb, fb, fm, cm⟩ c 0)) = v20 := ⟨_, rfl⟩
          rw [hv20] at lv k20 ⊢
          obtain ⟨db, hdb⟩ : ∃ db, v17.heap.size = db := ⟨_, rfl⟩
          rw [hdb] at k20 ⊢
          have KDv20 := Lib.hid (kb_below KDv17.out lv)
          have LDv20 : Hid (Below w.heap.size w v20) := Lib.hid (LDv17.out.trans (lv.mono LDv17.out.size))
          have Zv20 : Hid (v17.heap.size ≤ v20.heap.size) := Lib.hid lv.size
          have BKv20 := Lib.hid (BKv17.out.below lv)
          have UBv20 := Lib.hid (UBv17.out.below lv)
          have WNv20 := Lib.hid (WNv17.out.below lv)
          have MPv20 := Lib.hid (MPv17.out.keep (lv.block _ MPv17.out.lt))
          have HSv20 := Lib.hid (HSv17.out.below lv)
          have FAv20 := Lib.hid (FAv17.out.below lv)
          have K20 := Lib.hid k20
          have P20 : Hid (v17.heap.size ≤ db) := Lib.hid (by omega)
          clear k20 hv20 hdb
          have hcv20 := conf_cells KDv20.out
          refine hK.out _ _ hcv20 (fun hHeld => ?_)
          clear hK K lv
          try go_frame
          refine wpAnyH_take (i := 21) (oi := ⟨_, _, _, _, _, _⟩) (v := ?_) rfl (by kernel_rfl) (by kernel_rfl) (by kernel_rfl) (fun _ _ _ h => h) (Or.inl ⟨by rfl, ?_⟩) (by assumption) ?_
          rotate_left
          · intro w hSw; (try dsimp only at hSw); go_simp; try (with_reducible rfl)
          try go_frame
          refine wpAnyH_done (by kernel_rfl) ?_ _
          go_wp2
          go_ret
          have zs := And.intro LD.out.size (And.intro Zv1.out ( And.intro Zv3.out ( And.intro Zv9.out ( And.intro Zv14.out ( And.intro Zv17.out ( And.intro Zv18.out ( And.intro Zv20.out (trivial))))))))
          exact ⟨⟨db, kb, ub, f, wb, hb, fb, fm, cm⟩, rfl, dep_made K20.out BKv20.out UBv20.out WNv20.out HSv20.out FAv20.out MPv20.out (by have := P3.out; have := P17.out; omega) (by have := P3.out; have := P18.out; omega) (by have := P17.out; have := P18.out; omega), LDv20.out, fun j hj => by have p1 := P1.out; have p3 := P3.out; have p9 := P9.out; have p14 := P14.out; have p17 := P17.out; have p18 := P18.out; have p20 := P20.out; rcases hj with e | e | (e | e) | e | e | e | e <;> simp only at e <;> omega⟩
      · intro K hK
        constructor
        go_simp
        have xm := mapV_new intK v3
        have lv := below_alloc v3 (.map #[] 0)
        have hz18 : (v3.alloc (.map #[] 0)).heap.size = v3.heap.size + 1 := by simp
        obtain ⟨v18, hv18⟩ : ∃ v18, v3.alloc (.map #[] 0) = v18 := ⟨_, rfl⟩
        obtain ⟨cm, hcm⟩ : ∃ cm, v3.heap.size = cm := ⟨_, rfl⟩
        rw [hv18] at xm lv hz18 ⊢
        rw [hcm] at xm ⊢
        have KDv18 := Lib.hid (kb_below KDv3.out lv)
        have LDv18 : Hid (Below w.heap.size w v18) := Lib.hid (LDv3.out.trans (lv.mono LDv3.out.size))
        have Zv18 : Hid (v3.heap.size ≤ v18.heap.size) := Lib.hid lv.size
        have BKv18 := Lib.hid (BKv3.out.below lv)
        have UBv18 := Lib.hid (UBv3.out.below lv)
        have MPv18 := Lib.hid xm
        have P18 : Hid (v3.heap.size = cm ∧ v18.heap.size = cm + 1) := Lib.hid ⟨hcm, by omega⟩
        clear xm hv18 hcm hz18
        have hcv18 := conf_cells KDv18.out
        refine hK.out _ _ hcv18 (fun hHeld => ?_)
        clear hK K lv
        try go_frame
        refine wpAnyH_ready (rs := [9]) (by kernel_rfl) (by simp) ?_
        refine ready_cons (i := 9) (o := ⟨_, _, _, _, _, _⟩) rfl ?_ AllReadyH.nil
        intro K hK
        refine call_step (f := 38) (args := #[.int .i64 c.buckets, .int .u64 c.width]) rfl (by kernel_rfl) ?_
        refine (NW.out v18).mono ?_
        rintro r v9 ⟨rfl, xw, lv⟩
        refine ⟨_, rfl, ?_⟩
        obtain ⟨wb, hwb⟩ : ∃ wb, v18.heap.size = wb := ⟨_, rfl⟩
        rw [hwb] at xw ⊢
        have KDv9 := Lib.hid (kb_below KDv18.out lv)
        have LDv9 : Hid (Below w.heap.size w v9) := Lib.hid (LDv18.out.trans (lv.mono LDv18.out.size))
        have Zv9 : Hid (v18.heap.size ≤ v9.heap.size) := Lib.hid lv.size
        have BKv9 := Lib.hid (BKv18.out.below lv)
        have UBv9 := Lib.hid (UBv18.out.below lv)
        have MPv9 := Lib.hid (MPv18.out.keep (lv.block _ MPv18.out.lt))
        have WNv9 := Lib.hid xw
        have P9 : Hid (v18.heap.size ≤ wb) := Lib.hid (by omega)
        clear xw hwb
        have hcv9 := conf_cells KDv9.out
        refine hK.out _ _ hcv9 (fun hHeld => ?_)
        clear hK K lv
        try go_frame
        refine wpAnyH_ready (rs := [14]) (by kernel_rfl) (by simp) ?_
        refine ready_cons (i := 14) (o := ⟨_, _, _, _, _, _⟩) rfl ?_ AllReadyH.nil
        intro K hK
        refine call_step (f := 39) (args := #[.int .i64 c.buckets, .int .u64 c.width]) rfl (by kernel_rfl) ?_
        refine (NH.out v9).mono ?_
        rintro r v14 ⟨rfl, xw, lv⟩
        refine ⟨_, rfl, ?_⟩
        obtain ⟨hb, hwb⟩ : ∃ hb, v9.heap.size = hb := ⟨_, rfl⟩
        rw [hwb] at xw ⊢
        have KDv14 := Lib.hid (kb_below KDv9.out lv)
        have LDv14 : Hid (Below w.heap.size w v14) := Lib.hid (LDv9.out.trans (lv.mono LDv9.out.size))
        have Zv14 : Hid (v9.heap.size ≤ v14.heap.size) := Lib.hid lv.size
        have BKv14 := Lib.hid (BKv9.out.below lv)
        have UBv14 := Lib.hid (UBv9.out.below lv)
        have MPv14 := Lib.hid (MPv9.out.keep (lv.block _ MPv9.out.lt))
        have WNv14 := Lib.hid (WNv9.out.below lv)
        have HSv14 := Lib.hid xw
        have P14 : Hid (v9.heap.size ≤ hb) := Lib.hid (by omega)
        clear xw hwb
        have hcv14 := conf_cells KDv14.out
        refine hK.out _ _ hcv14 (fun hHeld => ?_)
        clear hK K lv
        try go_frame
        refine wpAnyH_ready (rs := [17]) (by kernel_rfl) (by simp) ?_
        refine ready_cons (i := 17) (o := ⟨_, _, _, _, _, _⟩) rfl ?_ AllReadyH.nil
        intro K hK
        refine call_step (f := 40) (args := #[.int .i64 c.fbMax]) rfl (by kernel_rfl) ?_
        refine (NP.out v14).mono ?_
        rintro r v17 ⟨fb, rfl, fm, xp, lv, hfb, hfm⟩
        refine ⟨_, rfl, ?_⟩
        have KDv17 := Lib.hid (kb_below KDv14.out lv)
        have LDv17 : Hid (Below w.heap.size w v17) := Lib.hid (LDv14.out.trans (lv.mono LDv14.out.size))
        have Zv17 : Hid (v14.heap.size ≤ v17.heap.size) := Lib.hid lv.size
        have BKv17 := Lib.hid (BKv14.out.below lv)
        have UBv17 := Lib.hid (UBv14.out.below lv)
        have MPv17 := Lib.hid (MPv14.out.keep (lv.block _ MPv14.out.lt))
        have WNv17 := Lib.hid (WNv14.out.below lv)
        have HSv17 := Lib.hid (HSv14.out.below lv)
        have FAv17 := Lib.hid xp
        have P17 : Hid (v14.heap.size ≤ fm ∧ fm < v17.heap.size) := Lib.hid ⟨hfm, xp.mp.lt⟩
        clear xp hfb hfm
        have hcv17 := conf_cells KDv17.out
        refine hK.out _ _ hcv17 (fun hHeld => ?_)
        clear hK K lv
        try go_frame
        refine wpAnyH_take (i := 19) (oi := ⟨_, _, _, _, _, _⟩) (v := .agg (aggV (depV ⟨0, kb, ub, f, wb, hb, fb, fm, cm⟩ c 0))) rfl (by kernel_rfl) (by kernel_rfl) (by kernel_rfl) (fun _ _ _ h => h) (Or.inl ⟨by rfl, fun wx _ => by kernel_rfl⟩) (by assumption) ?_
        try go_frame
        refine wpAnyH_ready (rs := [20]) (by kernel_rfl) (by simp) ?_
        refine ready_cons (i := 20) (o := ⟨_, _, _, _, _, _⟩) rfl ?_ AllReadyH.nil
        intro K hK
        refine wpList_store_box rfl 114 _ rfl (depV ⟨v17.heap.size, kb, ub, f, wb, hb, fb, fm, cm⟩ c 0) rfl ?_
        have lv := below_alloc v17 (vobj 114 (depV ⟨v17.heap.size, kb, ub, f, wb, hb, fb, fm, cm⟩ c 0))
        have k20 := heap_alloc_at v17 (vobj 114 (depV ⟨v17.heap.size, kb, ub, f, wb, hb, fb, fm, cm⟩ c 0))
        obtain ⟨v20, hv20⟩ : ∃ v20, v17.alloc (vobj 114 (depV ⟨v17.heap.size, kb, ub, f, wb, hb, fb, fm, cm⟩ c 0)) = v20 := ⟨_, rfl⟩
        rw [hv20] at lv k20 ⊢
        obtain ⟨db, hdb⟩ : ∃ db, v17.heap.size = db := ⟨_, rfl⟩
        rw [hdb] at k20 ⊢
        have KDv20 := Lib.hid (kb_below KDv17.out lv)
        have LDv20 : Hid (Below w.heap.size w v20) := Lib.hid (LDv17.out.trans (lv.mono LDv17.out.size))
        have Zv20 : Hid (v17.heap.size ≤ v20.heap.size) := Lib.hid lv.size
        have BKv20 := Lib.hid (BKv17.out.below lv)
        have UBv20 := Lib.hid (UBv17.out.below lv)
        have MPv20 := Lib.hid (MPv17.out.keep (lv.block _ MPv17.out.lt))
        have WNv20 := Lib.hid (WNv17.out.below lv)
        have HSv20 := Lib.hid (HSv17.out.below lv)
        have FAv20 := Lib.hid (FAv17.out.below lv)
        have K20 := Lib.hid k20
        have P20 : Hid (v17.heap.size ≤ db) := Lib.hid (by omega)
        clear k20 hv20 hdb
        have hcv20 := conf_cells KDv20.out
        refine hK.out _ _ hcv20 (fun hHeld => ?_)
        clear hK K lv
        try go_frame
        refine wpAnyH_take (i := 21) (oi := ⟨_, _, _, _, _, _⟩) (v := ?_) rfl (by kernel_rfl) (by kernel_rfl) (by kernel_rfl) (fun _ _ _ h => h) (Or.inl ⟨by rfl, ?_⟩) (by assumption) ?_
        rotate_left
        · intro w hSw; (try dsimp only at hSw); go_simp; try (with_reducible rfl)
        try go_frame
        refine wpAnyH_done (by kernel_rfl) ?_ _
        go_wp2
        go_ret
        have zs := And.intro LD.out.size (And.intro Zv1.out ( And.intro Zv3.out ( And.intro Zv9.out ( And.intro Zv14.out ( And.intro Zv17.out ( And.intro Zv18.out ( And.intro Zv20.out (trivial))))))))
        exact ⟨⟨db, kb, ub, f, wb, hb, fb, fm, cm⟩, rfl, dep_made K20.out BKv20.out UBv20.out WNv20.out HSv20.out FAv20.out MPv20.out (by have := P3.out; have := P17.out; omega) (by have := P3.out; have := P18.out; omega) (by have := P17.out; have := P18.out; omega), LDv20.out, fun j hj => by have p1 := P1.out; have p3 := P3.out; have p9 := P9.out; have p14 := P14.out; have p17 := P17.out; have p18 := P18.out; have p20 := P20.out; rcases hj with e | e | (e | e) | e | e | e | e <;> simp only at e <;> omega⟩
    · intro K hK
      constructor
      go_simp
      have xm := mapV_new intK v1
      have lv := below_alloc v1 (.map #[] 0)
      have hz18 : (v1.alloc (.map #[] 0)).heap.size = v1.heap.size + 1 := by simp
      obtain ⟨v18, hv18⟩ : ∃ v18, v1.alloc (.map #[] 0) = v18 := ⟨_, rfl⟩
      obtain ⟨cm, hcm⟩ : ∃ cm, v1.heap.size = cm := ⟨_, rfl⟩
      rw [hv18] at xm lv hz18 ⊢
      rw [hcm] at xm ⊢
      have KDv18 := Lib.hid (kb_below KDv1.out lv)
      have LDv18 : Hid (Below w.heap.size w v18) := Lib.hid (LDv1.out.trans (lv.mono LDv1.out.size))
      have Zv18 : Hid (v1.heap.size ≤ v18.heap.size) := Lib.hid lv.size
      have BKv18 := Lib.hid (BKv1.out.below lv)
      have MPv18 := Lib.hid xm
      have P18 : Hid (v1.heap.size = cm ∧ v18.heap.size = cm + 1) := Lib.hid ⟨hcm, by omega⟩
      clear xm hv18 hcm hz18
      have hcv18 := conf_cells KDv18.out
      refine hK.out _ _ hcv18 (fun hHeld => ?_)
      clear hK K lv
      try go_frame
      refine wpAnyH_ready (rs := [3]) (by kernel_rfl) (by simp) ?_
      refine ready_cons (i := 3) (o := ⟨_, _, _, _, _, _⟩) rfl ?_ AllReadyH.nil
      intro K hK
      refine call_step (f := 37) (args := #[.agg (aggV c.vals)]) rfl (by kernel_rfl) ?_
      refine (NU.out v18).mono ?_
      rintro r v3 ⟨ub, rfl, f, xu, lv, hub, hfm, hrb⟩
      refine ⟨_, rfl, ?_⟩
      have KDv3 := Lib.hid (kb_below KDv18.out lv)
      have LDv3 : Hid (Below w.heap.size w v3) := Lib.hid (LDv18.out.trans (lv.mono LDv18.out.size))
      have Zv3 : Hid (v18.heap.size ≤ v3.heap.size) := Lib.hid lv.size
      have BKv3 := Lib.hid (BKv18.out.below lv)
      have MPv3 := Lib.hid (MPv18.out.keep (lv.block _ MPv18.out.lt))
      have UBv3 := Lib.hid xu
      have P3 : Hid ((v18.heap.size ≤ f.m ∧ v18.heap.size ≤ f.rb) ∧ f.m < v3.heap.size) := Lib.hid ⟨⟨hfm, hrb⟩, xu.prm.mp.lt⟩
      clear xu hub hfm hrb
      have hcv3 := conf_cells KDv3.out
      refine hK.out _ _ hcv3 (fun hHeld => ?_)
      clear hK K lv
      try go_frame
      refine wpAnyH_ready (rs := [9]) (by kernel_rfl) (by simp) ?_
      refine ready_cons (i := 9) (o := ⟨_, _, _, _, _, _⟩) rfl ?_ AllReadyH.nil
      intro K hK
      refine call_step (f := 38) (args := #[.int .i64 c.buckets, .int .u64 c.width]) rfl (by kernel_rfl) ?_
      refine (NW.out v3).mono ?_
      rintro r v9 ⟨rfl, xw, lv⟩
      refine ⟨_, rfl, ?_⟩
      obtain ⟨wb, hwb⟩ : ∃ wb, v3.heap.size = wb := ⟨_, rfl⟩
      rw [hwb] at xw ⊢
      have KDv9 := Lib.hid (kb_below KDv3.out lv)
      have LDv9 : Hid (Below w.heap.size w v9) := Lib.hid (LDv3.out.trans (lv.mono LDv3.out.size))
      have Zv9 : Hid (v3.heap.size ≤ v9.heap.size) := Lib.hid lv.size
      have BKv9 := Lib.hid (BKv3.out.below lv)
      have MPv9 := Lib.hid (MPv3.out.keep (lv.block _ MPv3.out.lt))
      have UBv9 := Lib.hid (UBv3.out.below lv)
      have WNv9 := Lib.hid xw
      have P9 : Hid (v3.heap.size ≤ wb) := Lib.hid (by omega)
      clear xw hwb
      have hcv9 := conf_cells KDv9.out
      refine hK.out _ _ hcv9 (fun hHeld => ?_)
      clear hK K lv
      try go_frame
      refine wpAnyH_ready (rs := [14]) (by kernel_rfl) (by simp) ?_
      refine ready_cons (i := 14) (o := ⟨_, _, _, _, _, _⟩) rfl ?_ AllReadyH.nil
      intro K hK
      refine call_step (f := 39) (args := #[.int .i64 c.buckets, .int .u64 c.width]) rfl (by kernel_rfl) ?_
      refine (NH.out v9).mono ?_
      rintro r v14 ⟨rfl, xw, lv⟩
      refine ⟨_, rfl, ?_⟩
      obtain ⟨hb, hwb⟩ : ∃ hb, v9.heap.size = hb := ⟨_, rfl⟩
      rw [hwb] at xw ⊢
      have KDv14 := Lib.hid (kb_below KDv9.out lv)
      have LDv14 : Hid (Below w.heap.size w v14) := Lib.hid (LDv9.out.trans (lv.mono LDv9.out.size))
      have Zv14 : Hid (v9.heap.size ≤ v14.heap.size) := Lib.hid lv.size
      have BKv14 := Lib.hid (BKv9.out.below lv)
      have MPv14 := Lib.hid (MPv9.out.keep (lv.block _ MPv9.out.lt))
      have UBv14 := Lib.hid (UBv9.out.below lv)
      have WNv14 := Lib.hid (WNv9.out.below lv)
      have HSv14 := Lib.hid xw
      have P14 : Hid (v9.heap.size ≤ hb) := Lib.hid (by omega)
      clear xw hwb
      have hcv14 := conf_cells KDv14.out
      refine hK.out _ _ hcv14 (fun hHeld => ?_)
      clear hK K lv
      try go_frame
      refine wpAnyH_ready (rs := [17]) (by kernel_rfl) (by simp) ?_
      refine ready_cons (i := 17) (o := ⟨_, _, _, _, _, _⟩) rfl ?_ AllReadyH.nil
      intro K hK
      refine call_step (f := 40) (args := #[.int .i64 c.fbMax]) rfl (by kernel_rfl) ?_
      refine (NP.out v14).mono ?_
      rintro r v17 ⟨fb, rfl, fm, xp, lv, hfb, hfm⟩
      refine ⟨_, rfl, ?_⟩
      have KDv17 := Lib.hid (kb_below KDv14.out lv)
      have LDv17 : Hid (Below w.heap.size w v17) := Lib.hid (LDv14.out.trans (lv.mono LDv14.out.size))
      have Zv17 : Hid (v14.heap.size ≤ v17.heap.size) := Lib.hid lv.size
      have BKv17 := Lib.hid (BKv14.out.below lv)
      have MPv17 := Lib.hid (MPv14.out.keep (lv.block _ MPv14.out.lt))
      have UBv17 := Lib.hid (UBv14.out.below lv)
      have WNv17 := Lib.hid (WNv14.out.below lv)
      have HSv17 := Lib.hid (HSv14.out.below lv)
      have FAv17 := Lib.hid xp
      have P17 : Hid (v14.heap.size ≤ fm ∧ fm < v17.heap.size) := Lib.hid ⟨hfm, xp.mp.lt⟩
      clear xp hfb hfm
      have hcv17 := conf_cells KDv17.out
      refine hK.out _ _ hcv17 (fun hHeld => ?_)
      clear hK K lv
      try go_frame
      refine wpAnyH_take (i := 19) (oi := ⟨_, _, _, _, _, _⟩) (v := .agg (aggV (depV ⟨0, kb, ub, f, wb, hb, fb, fm, cm⟩ c 0))) rfl (by kernel_rfl) (by kernel_rfl) (by kernel_rfl) (fun _ _ _ h => h) (Or.inl ⟨by rfl, fun wx _ => by kernel_rfl⟩) (by assumption) ?_
      try go_frame
      refine wpAnyH_ready (rs := [20]) (by kernel_rfl) (by simp) ?_
      refine ready_cons (i := 20) (o := ⟨_, _, _, _, _, _⟩) rfl ?_ AllReadyH.nil
      intro K hK
      refine wpList_store_box rfl 114 _ rfl (depV ⟨v17.heap.size, kb, ub, f, wb, hb, fb, fm, cm⟩ c 0) rfl ?_
      have lv := below_alloc v17 (vobj 114 (depV ⟨v17.heap.size, kb, ub, f, wb, hb, fb, fm, cm⟩ c 0))
      have k20 := heap_alloc_at v17 (vobj 114 (depV ⟨v17.heap.size, kb, ub, f, wb, hb, fb, fm, cm⟩ c 0))
      obtain ⟨v20, hv20⟩ : ∃ v20, v17.alloc (vobj 114 (depV ⟨v17.heap.size, kb, ub, f, wb, hb, fb, fm, cm⟩ c 0)) = v20 := ⟨_, rfl⟩
      rw [hv20] at lv k20 ⊢
      obtain ⟨db, hdb⟩ : ∃ db, v17.heap.size = db := ⟨_, rfl⟩
      rw [hdb] at k20 ⊢
      have KDv20 := Lib.hid (kb_below KDv17.out lv)
      have LDv20 : Hid (Below w.heap.size w v20) := Lib.hid (LDv17.out.trans (lv.mono LDv17.out.size))
      have Zv20 : Hid (v17.heap.size ≤ v20.heap.size) := Lib.hid lv.size
      have BKv20 := Lib.hid (BKv17.out.below lv)
      have MPv20 := Lib.hid (MPv17.out.keep (lv.block _ MPv17.out.lt))
      have UBv20 := Lib.hid (UBv17.out.below lv)
      have WNv20 := Lib.hid (WNv17.out.below lv)
      have HSv20 := Lib.hid (HSv17.out.below lv)
      have FAv20 := Lib.hid (FAv17.out.below lv)
      have K20 := Lib.hid k20
      have P20 : Hid (v17.heap.size ≤ db) := Lib.hid (by omega)
      clear k20 hv20 hdb
      have hcv20 := conf_cells KDv20.out
      refine hK.out _ _ hcv20 (fun hHeld => ?_)
      clear hK K lv
      try go_frame
      refine wpAnyH_take (i := 21) (oi := ⟨_, _, _, _, _, _⟩) (v := ?_) rfl (by kernel_rfl) (by kernel_rfl) (by kernel_rfl) (fun _ _ _ h => h) (Or.inl ⟨by rfl, ?_⟩) (by assumption) ?_
      rotate_left
      · intro w hSw; (try dsimp only at hSw); go_simp; try (with_reducible rfl)
      try go_frame
      refine wpAnyH_done (by kernel_rfl) ?_ _
      go_wp2
      go_ret
      have zs := And.intro LD.out.size (And.intro Zv1.out ( And.intro Zv3.out ( And.intro Zv9.out ( And.intro Zv14.out ( And.intro Zv17.out ( And.intro Zv18.out ( And.intro Zv20.out (trivial))))))))
      exact ⟨⟨db, kb, ub, f, wb, hb, fb, fm, cm⟩, rfl, dep_made K20.out BKv20.out UBv20.out WNv20.out HSv20.out FAv20.out MPv20.out (by have := P3.out; have := P17.out; omega) (by have := P3.out; have := P18.out; omega) (by have := P17.out; have := P18.out; omega), LDv20.out, fun j hj => by have p1 := P1.out; have p3 := P3.out; have p9 := P9.out; have p14 := P14.out; have p17 := P17.out; have p18 := P18.out; have p20 := P20.out; rcases hj with e | e | (e | e) | e | e | e | e <;> simp only at e <;> omega⟩
  · intro K hK
    constructor
    go_simp
    have xm := mapV_new intK wd
    have lv := below_alloc wd (.map #[] 0)
    have hz18 : (wd.alloc (.map #[] 0)).heap.size = wd.heap.size + 1 := by simp
    obtain ⟨v18, hv18⟩ : ∃ v18, wd.alloc (.map #[] 0) = v18 := ⟨_, rfl⟩
    obtain ⟨cm, hcm⟩ : ∃ cm, wd.heap.size = cm := ⟨_, rfl⟩
    rw [hv18] at xm lv hz18 ⊢
    rw [hcm] at xm ⊢
    have KDv18 := Lib.hid (kb_below KD.out lv)
    have LDv18 : Hid (Below w.heap.size w v18) := Lib.hid (LD.out.trans (lv.mono LD.out.size))
    have Zv18 : Hid (wd.heap.size ≤ v18.heap.size) := Lib.hid lv.size
    have MPv18 := Lib.hid xm
    have P18 : Hid (wd.heap.size = cm ∧ v18.heap.size = cm + 1) := Lib.hid ⟨hcm, by omega⟩
    clear xm hv18 hcm hz18
    have hcv18 := conf_cells KDv18.out
    refine hK.out _ _ hcv18 (fun hHeld => ?_)
    clear hK K lv
    try go_frame
    refine wpAnyH_ready (rs := [1]) (by kernel_rfl) (by simp) ?_
    refine ready_cons (i := 1) (o := ⟨_, _, _, _, _, _⟩) rfl ?_ AllReadyH.nil
    intro K hK
    refine call_step (f := 36) (args := #[.agg (aggV c.vals)]) rfl (by kernel_rfl) ?_
    refine (new_brk c v18).mono ?_
    rintro r v1 ⟨kb, rfl, hkb, xb, lv⟩
    refine ⟨_, rfl, ?_⟩
    have KDv1 := Lib.hid (kb_below KDv18.out lv)
    have LDv1 : Hid (Below w.heap.size w v1) := Lib.hid (LDv18.out.trans (lv.mono LDv18.out.size))
    have Zv1 : Hid (v18.heap.size ≤ v1.heap.size) := Lib.hid lv.size
    have MPv1 := Lib.hid (MPv18.out.keep (lv.block _ MPv18.out.lt))
    have BKv1 := Lib.hid xb
    have P1 : Hid (v18.heap.size ≤ kb) := Lib.hid hkb
    clear xb hkb
    have hcv1 := conf_cells KDv1.out
    refine hK.out _ _ hcv1 (fun hHeld => ?_)
    clear hK K lv
    try go_frame
    refine wpAnyH_ready (rs := [3]) (by kernel_rfl) (by simp) ?_
    refine ready_cons (i := 3) (o := ⟨_, _, _, _, _, _⟩) rfl ?_ AllReadyH.nil
    intro K hK
    refine call_step (f := 37) (args := #[.agg (aggV c.vals)]) rfl (by kernel_rfl) ?_
    refine (NU.out v1).mono ?_
    rintro r v3 ⟨ub, rfl, f, xu, lv, hub, hfm, hrb⟩
    refine ⟨_, rfl, ?_⟩
    have KDv3 := Lib.hid (kb_below KDv1.out lv)
    have LDv3 : Hid (Below w.heap.size w v3) := Lib.hid (LDv1.out.trans (lv.mono LDv1.out.size))
    have Zv3 : Hid (v1.heap.size ≤ v3.heap.size) := Lib.hid lv.size
    have MPv3 := Lib.hid (MPv1.out.keep (lv.block _ MPv1.out.lt))
    have BKv3 := Lib.hid (BKv1.out.below lv)
    have UBv3 := Lib.hid xu
    have P3 : Hid ((v1.heap.size ≤ f.m ∧ v1.heap.size ≤ f.rb) ∧ f.m < v3.heap.size) := Lib.hid ⟨⟨hfm, hrb⟩, xu.prm.mp.lt⟩
    clear xu hub hfm hrb
    have hcv3 := conf_cells KDv3.out
    refine hK.out _ _ hcv3 (fun hHeld => ?_)
    clear hK K lv
    try go_frame
    refine wpAnyH_ready (rs := [9]) (by kernel_rfl) (by simp) ?_
    refine ready_cons (i := 9) (o := ⟨_, _, _, _, _, _⟩) rfl ?_ AllReadyH.nil
    intro K hK
    refine call_step (f := 38) (args := #[.int .i64 c.buckets, .int .u64 c.width]) rfl (by kernel_rfl) ?_
    refine (NW.out v3).mono ?_
    rintro r v9 ⟨rfl, xw, lv⟩
    refine ⟨_, rfl, ?_⟩
    obtain ⟨wb, hwb⟩ : ∃ wb, v3.heap.size = wb := ⟨_, rfl⟩
    rw [hwb] at xw ⊢
    have KDv9 := Lib.hid (kb_below KDv3.out lv)
    have LDv9 : Hid (Below w.heap.size w v9) := Lib.hid (LDv3.out.trans (lv.mono LDv3.out.size))
    have Zv9 : Hid (v3.heap.size ≤ v9.heap.size) := Lib.hid lv.size
    have MPv9 := Lib.hid (MPv3.out.keep (lv.block _ MPv3.out.lt))
    have BKv9 := Lib.hid (BKv3.out.below lv)
    have UBv9 := Lib.hid (UBv3.out.below lv)
    have WNv9 := Lib.hid xw
    have P9 : Hid (v3.heap.size ≤ wb) := Lib.hid (by omega)
    clear xw hwb
    have hcv9 := conf_cells KDv9.out
    refine hK.out _ _ hcv9 (fun hHeld => ?_)
    clear hK K lv
    try go_frame
    refine wpAnyH_ready (rs := [14]) (by kernel_rfl) (by simp) ?_
    refine ready_cons (i := 14) (o := ⟨_, _, _, _, _, _⟩) rfl ?_ AllReadyH.nil
    intro K hK
    refine call_step (f := 39) (args := #[.int .i64 c.buckets, .int .u64 c.width]) rfl (by kernel_rfl) ?_
    refine (NH.out v9).mono ?_
    rintro r v14 ⟨rfl, xw, lv⟩
    refine ⟨_, rfl, ?_⟩
    obtain ⟨hb, hwb⟩ : ∃ hb, v9.heap.size = hb := ⟨_, rfl⟩
    rw [hwb] at xw ⊢
    have KDv14 := Lib.hid (kb_below KDv9.out lv)
    have LDv14 : Hid (Below w.heap.size w v14) := Lib.hid (LDv9.out.trans (lv.mono LDv9.out.size))
    have Zv14 : Hid (v9.heap.size ≤ v14.heap.size) := Lib.hid lv.size
    have MPv14 := Lib.hid (MPv9.out.keep (lv.block _ MPv9.out.lt))
    have BKv14 := Lib.hid (BKv9.out.below lv)
    have UBv14 := Lib.hid (UBv9.out.below lv)
    have WNv14 := Lib.hid (WNv9.out.below lv)
    have HSv14 := Lib.hid xw
    have P14 : Hid (v9.heap.size ≤ hb) := Lib.hid (by omega)
    clear xw hwb
    have hcv14 := conf_cells KDv14.out
    refine hK.out _ _ hcv14 (fun hHeld => ?_)
    clear hK K lv
    try go_frame
    refine wpAnyH_ready (rs := [17]) (by kernel_rfl) (by simp) ?_
    refine ready_cons (i := 17) (o := ⟨_, _, _, _, _, _⟩) rfl ?_ AllReadyH.nil
    intro K hK
    refine call_step (f := 40) (args := #[.int .i64 c.fbMax]) rfl (by kernel_rfl) ?_
    refine (NP.out v14).mono ?_
    rintro r v17 ⟨fb, rfl, fm, xp, lv, hfb, hfm⟩
    refine ⟨_, rfl, ?_⟩
    have KDv17 := Lib.hid (kb_below KDv14.out lv)
    have LDv17 : Hid (Below w.heap.size w v17) := Lib.hid (LDv14.out.trans (lv.mono LDv14.out.size))
    have Zv17 : Hid (v14.heap.size ≤ v17.heap.size) := Lib.hid lv.size
    have MPv17 := Lib.hid (MPv14.out.keep (lv.block _ MPv14.out.lt))
    have BKv17 := Lib.hid (BKv14.out.below lv)
    have UBv17 := Lib.hid (UBv14.out.below lv)
    have WNv17 := Lib.hid (WNv14.out.below lv)
    have HSv17 := Lib.hid (HSv14.out.below lv)
    have FAv17 := Lib.hid xp
    have P17 : Hid (v14.heap.size ≤ fm ∧ fm < v17.heap.size) := Lib.hid ⟨hfm, xp.mp.lt⟩
    clear xp hfb hfm
    have hcv17 := conf_cells KDv17.out
    refine hK.out _ _ hcv17 (fun hHeld => ?_)
    clear hK K lv
    try go_frame
    refine wpAnyH_take (i := 19) (oi := ⟨_, _, _, _, _, _⟩) (v := .agg (aggV (depV ⟨0, kb, ub, f, wb, hb, fb, fm, cm⟩ c 0))) rfl (by kernel_rfl) (by kernel_rfl) (by kernel_rfl) (fun _ _ _ h => h) (Or.inl ⟨by rfl, fun wx _ => by kernel_rfl⟩) (by assumption) ?_
    try go_frame
    refine wpAnyH_ready (rs := [20]) (by kernel_rfl) (by simp) ?_
    refine ready_cons (i := 20) (o := ⟨_, _, _, _, _, _⟩) rfl ?_ AllReadyH.nil
    intro K hK
    refine wpList_store_box rfl 114 _ rfl (depV ⟨v17.heap.size, kb, ub, f, wb, hb, fb, fm, cm⟩ c 0) rfl ?_
    have lv := below_alloc v17 (vobj 114 (depV ⟨v17.heap.size, kb, ub, f, wb, hb, fb, fm, cm⟩ c 0))
    have k20 := heap_alloc_at v17 (vobj 114 (depV ⟨v17.heap.size, kb, ub, f, wb, hb, fb, fm, cm⟩ c 0))
    obtain ⟨v20, hv20⟩ : ∃ v20, v17.alloc (vobj 114 (depV ⟨v17.heap.size, kb, ub, f, wb, hb, fb, fm, cm⟩ c 0)) = v20 := ⟨_, rfl⟩
    rw [hv20] at lv k20 ⊢
    obtain ⟨db, hdb⟩ : ∃ db, v17.heap.size = db := ⟨_, rfl⟩
    rw [hdb] at k20 ⊢
    have KDv20 := Lib.hid (kb_below KDv17.out lv)
    have LDv20 : Hid (Below w.heap.size w v20) := Lib.hid (LDv17.out.trans (lv.mono LDv17.out.size))
    have Zv20 : Hid (v17.heap.size ≤ v20.heap.size) := Lib.hid lv.size
    have MPv20 := Lib.hid (MPv17.out.keep (lv.block _ MPv17.out.lt))
    have BKv20 := Lib.hid (BKv17.out.below lv)
    have UBv20 := Lib.hid (UBv17.out.below lv)
    have WNv20 := Lib.hid (WNv17.out.below lv)
    have HSv20 := Lib.hid (HSv17.out.below lv)
    have FAv20 := Lib.hid (FAv17.out.below lv)
    have K20 := Lib.hid k20
    have P20 : Hid (v17.heap.size ≤ db) := Lib.hid (by omega)
    clear k20 hv20 hdb
    have hcv20 := conf_cells KDv20.out
    refine hK.out _ _ hcv20 (fun hHeld => ?_)
    clear hK K lv
    try go_frame
    refine wpAnyH_take (i := 21) (oi := ⟨_, _, _, _, _, _⟩) (v := ?_) rfl (by kernel_rfl) (by kernel_rfl) (by kernel_rfl) (fun _ _ _ h => h) (Or.inl ⟨by rfl, ?_⟩) (by assumption) ?_
    rotate_left
    · intro w hSw; (try dsimp only at hSw); go_simp; try (with_reducible rfl)
    try go_frame
    refine wpAnyH_done (by kernel_rfl) ?_ _
    go_wp2
    go_ret
    have zs := And.intro LD.out.size (And.intro Zv1.out ( And.intro Zv3.out ( And.intro Zv9.out ( And.intro Zv14.out ( And.intro Zv17.out ( And.intro Zv18.out ( And.intro Zv20.out (trivial))))))))
    exact ⟨⟨db, kb, ub, f, wb, hb, fb, fm, cm⟩, rfl, dep_made K20.out BKv20.out UBv20.out WNv20.out HSv20.out FAv20.out MPv20.out (by have := P3.out; have := P17.out; omega) (by have := P3.out; have := P18.out; omega) (by have := P17.out; have := P18.out; omega), LDv20.out, fun j hj => by have p1 := P1.out; have p3 := P3.out; have p9 := P9.out; have p14 := P14.out; have p17 := P17.out; have p18 := P18.out; have p20 := P20.out; rcases hj with e | e | (e | e) | e | e | e | e <;> simp only at e <;> omega⟩
end Go.Proofs.YtgnccpmkdgfjeaaGreat

namespace Go.Proofs.YtgnccpmkdgfjeaaGreat
set_option linter.unusedVariables false

/-- A call by itself. -/
structure CLs (x : CL) : Prop where
  sz : x.zs.length ≤ 1000 ∧ x.ms.length ≤ 1000
  sp : 0 ≤ x.k.sp ∧ x.k.sp ≤ 3
  st : 1 ≤ x.k.st ∧ x.k.st ≤ 4
  tm : 0 ≤ x.k.tm ∧ x.k.tm ≤ 18446744073709551615
  ca : x.k.st = 3 → 1 ≤ x.k.ca ∧ x.k.ca ≤ 4
  id : 1 ≤ x.id
/-- A call beside who runs, waits and falls back. -/
structure Good (S : DS) (x : CL) : Prop where
  g1 : x.k.st = 1 → x.id ∈ S.bul.wait
  g2 : x.k.st = 2 → x.id ∈ S.bul.run
  g3 : x.k.st = 3 → (x.id, x.k.sp) ∈ S.fb
  g4 : x.k.st = 4 → S.holds x.id = true
theorem Good.of {S S' : DS} {x : CL} (h : Good S x) (h1 : x.id ∈ S.bul.wait → x.id ∈ S'.bul.wait) (h2 : x.id ∈ S.bul.run → x.id ∈ S'.bul.run) (h3 : ∀ s, (x.id, s) ∈ S.fb → (x.id, s) ∈ S'.fb) : Good S' x :=
  ⟨fun e => h1 (h.g1 e), fun e => h2 (h.g2 e), fun e => h3 _ (h.g3 e), fun e => by
    have := h.g4 e
    unfold DS.holds at this ⊢
    rw [Bool.or_eq_true] at this ⊢
    rcases this with h | h
    · exact .inl (by simpa using h2 (by simpa using h))
    · right
      rw [List.any_eq_true] at h ⊢
      obtain ⟨p, hp, he⟩ := h
      obtain ⟨p1, p2⟩ := p
      have he' : p1 = x.id := by simpa using he
      subst he'
      exact ⟨_, h3 _ hp, he⟩⟩
theorem Good.same {S S' : DS} {x : CL} (h : Good S x) (h1 : S'.bul = S.bul) (h2 : S'.fb = S.fb) : Good S' x := h.of (by rw [h1]; exact id) (by rw [h1]; exact id) (by rw [h2]; exact fun _ => id)
/-- What stays, but for the calls of E. -/
structure DS.OkE (E : Int → Prop) (c : Cnf) (S : DS) : Prop where
  cf : c.Fits
  may : c.May
  brk : S.brk.Fits
  cl : ∀ x ∈ S.cs, CLs x
  good : ∀ x ∈ S.cs, ¬ E x.id → Good S x
  run : ∀ j ∈ S.bul.run, ¬ E j → ∃ x ∈ S.cs, x.id = j ∧ x.k.st ≠ 1
  wait : ∀ j ∈ S.bul.wait, ¬ E j → ∃ x ∈ S.cs, x.id = j ∧ x.k.st = 1
  fbk : ∀ h ∈ S.fb, ¬ E h.1 → ∃ x ∈ S.cs, x.id = h.1 ∧ 3 ≤ x.k.st
  pr : S.pr ≠ 0 → ¬ E S.pr → ∃ x ∈ S.cs, x.id = S.pr ∧ x.k.st ≤ 2
abbrev DS.Ok (c : Cnf) (S : DS) : Prop := DS.OkE (fun _ => False) c S
namespace DS
variable {E E' : Int → Prop} {c : Cnf} {S : DS} {i : Int}
theorem OkE.weak (h : OkE E c S) (he : ∀ j, E j → E' j) : OkE E' c S :=
  ⟨h.cf, h.may, h.brk, h.cl, fun x hx hn => h.good x hx (fun hc => hn (he _ hc)), fun j hj hn => h.run j hj (fun hc => hn (he _ hc)), fun j hj hn => h.wait j hj (fun hc => hn (he _ hc)), fun j hj hn => h.fbk j hj (fun hc => hn (he _ hc)), fun hp hn => h.pr hp (fun hc => hn (he _ hc))⟩
theorem Ok.but (h : Ok c S) (i : Int) : OkE (· = i) c S := h.weak (fun _ hc => hc.elim)
theorem put_mem {x z : CL} : z ∈ (S.put x).cs ↔ (z ∈ S.cs ∧ z.id ≠ x.id) ∨ z = x := by
  show z ∈ without S.cs x.id ++ [x] ↔ _
  rw [List.mem_append, without_mem, List.mem_singleton]
theorem holds_not {S : DS} {id : Int} (h : S.holds id = false) : id ∉ S.bul.run ∧ ∀ p ∈ S.fb, p.1 ≠ id := by
  unfold DS.holds at h
  rw [Bool.or_eq_false_iff] at h
  refine ⟨by simpa using h.1, fun p hp e => ?_⟩
  have := List.any_eq_false.1 h.2 p hp
  simp [e] at this
/-- A call is put back, as it is now. -/
theorem OkE.keep (h : OkE (· = i) c S) {y : CL} (hy : y.id = i) (hs : CLs y) (h34 : y.k.st = 3 ∨ y.k.st = 4) (h3 : y.k.st = 3 → (i, y.k.sp) ∈ S.fb) (hw : i ∉ S.bul.wait) (hp : S.pr ≠ i) : Ok c (S.keep y) := by
  subst hy
  unfold DS.keep
  by_cases hg : S.gone y = true
  · rw [if_pos hg]
    unfold DS.gone at hg
    rw [Bool.and_eq_true] at hg
    have hno := holds_not (id := y.id) (by simpa using hg.2)
    have hm : ∀ z, z ∈ (S.del y.id).cs ↔ z ∈ S.cs ∧ z.id ≠ y.id := fun z => without_mem
    have hex : ∀ j, j ≠ y.id → ∀ P : CL → Prop, (∃ x ∈ S.cs, x.id = j ∧ P x) → ∃ x ∈ (S.del y.id).cs, x.id = j ∧ P x := fun j hj P ⟨x, hx, e, q⟩ => ⟨x, (hm x).2 ⟨hx, by rw [e]; exact hj⟩, e, q⟩
    refine ⟨h.cf, h.may, h.brk, fun x hx => h.cl x ((hm x).1 hx).1, fun x hx _ => (h.good x ((hm x).1 hx).1 ((hm x).1 hx).2).same rfl rfl, fun j hj _ => ?_, fun j hj _ => ?_, fun q hq _ => ?_, fun hp0 _ => ?_⟩
    · have hj' : j ≠ y.id := fun e => hno.1 (by rw [← e]; exact hj)
      exact hex j hj' _ (h.run j hj hj')
    · have hj' : j ≠ y.id := fun e => hw (by rw [← e]; exact hj)
      exact hex j hj' _ (h.wait j hj hj')
    · exact hex q.1 (hno.2 q hq) _ (h.fbk q hq (hno.2 q hq))
    · exact hex S.pr hp _ (h.pr hp0 hp)
  · rw [if_neg hg]
    have hho : y.k.st = 4 → S.holds y.id = true := fun e => by
      cases hh : S.holds y.id with
      | true => rfl
      | false => exact absurd (by unfold DS.gone; simp [e, hh]) hg
    have hex : ∀ j, j ≠ y.id → ∀ P : CL → Prop, (∃ x ∈ S.cs, x.id = j ∧ P x) → ∃ x ∈ (S.put y).cs, x.id = j ∧ P x := fun j hj P ⟨x, hx, e, q⟩ => ⟨x, put_mem.2 (.inl ⟨hx, by rw [e]; exact hj⟩), e, q⟩
    refine ⟨h.cf, h.may, h.brk, fun x hx => ?_, fun x hx _ => ?_, fun j hj _ => ?_, fun j hj _ => ?_, fun q hq _ => ?_, fun hp0 _ => ?_⟩
    · rcases put_mem.1 hx with ⟨hx, _⟩ | rfl
      · exact h.cl x hx
      · exact hs
    · rcases put_mem.1 hx with ⟨hx, hn⟩ | rfl
      · exact (h.good x hx hn).same rfl rfl
      · exact ⟨fun e => by omega, fun e => by omega, h3, hho⟩
    · by_cases hj' : j = y.id
      · exact ⟨y, put_mem.2 (.inr rfl), hj'.symm, by omega⟩
      · exact hex j hj' _ (h.run j hj hj')
    · have hj' : j ≠ y.id := fun e => hw (by rw [← e]; exact hj)
      exact hex j hj' _ (h.wait j hj hj')
    · by_cases hj' : q.1 = y.id
      · exact ⟨y, put_mem.2 (.inr rfl), hj'.symm, by omega⟩
      · exact hex q.1 hj' _ (h.fbk q hq hj')
    · exact hex S.pr hp _ (h.pr hp0 hp)
/-- How far a call falls. -/
theorem goL_spec {z ch : Int} {can : Int → Bool} (hch : ch ≤ 3) : ∀ (n : Nat) (k : CN) (m : Bool), 0 ≤ k.sp ∧ k.sp ≤ 3 → (m = true → k.st = 3) → (m = false → k.st = 4) → (1 ≤ k.ca ∧ k.ca ≤ 4) →
    (0 ≤ (CN.goL z ch can n k m).1.sp ∧ (CN.goL z ch can n k m).1.sp ≤ 3) ∧ ((CN.goL z ch can n k m).2 = true → (CN.goL z ch can n k m).1.st = 3) ∧ ((CN.goL z ch can n k m).2 = false → (CN.goL z ch can n k m).1.st = 4) ∧ (1 ≤ (CN.goL z ch can n k m).1.ca ∧ (CN.goL z ch can n k m).1.ca ≤ 4) ∧ (CN.goL z ch can n k m).1.tm = k.tm
  | 0, k, m, h1, h2, h3, h4 => ⟨h1, h2, h3, h4, rfl⟩
  | n + 1, k, m, h1, h2, h3, h4 => by
    by_cases hc : (m && !can k.sp) = true
    · rw [CN.goL_step hc]
      rw [Bool.and_eq_true] at hc
      have hs := h2 hc.1
      have key : (0 ≤ (k.fail z ch).sp ∧ (k.fail z ch).sp ≤ 3) ∧ (k.fails ch = true → (k.fail z ch).st = 3) ∧ (k.fails ch = false → (k.fail z ch).st = 4) ∧ (1 ≤ (k.fail z ch).ca ∧ (k.fail z ch).ca ≤ 4) ∧ (k.fail z ch).tm = k.tm := by
        unfold CN.fail CN.fails CN.why
        rw [if_pos (by omega)]
        split
        · refine ⟨⟨by simp only; omega, by simp only; omega⟩, fun _ => rfl, fun hf => ?_, by first | exact h4 | (simp only [hs, if_true]; exact h4) | (rw [if_pos hs]; exact h4), rfl⟩
          have := of_decide_eq_false hf
          exact absurd ⟨by omega, by assumption⟩ this
        · refine ⟨h1, fun hf => ?_, fun _ => rfl, by first | exact h4 | (simp only [hs, if_true]; exact h4) | (rw [if_pos hs]; exact h4), rfl⟩
          have := of_decide_eq_true hf
          omega
      obtain ⟨a, b, d, e, f⟩ := key
      obtain ⟨a', b', d', e', f'⟩ := goL_spec hch n (k.fail z ch) (k.fails ch) a b d e
      exact ⟨a', b', d', e', f'.trans f⟩
    · rw [CN.goL_stop (by simpa using hc)]
      exact ⟨h1, h2, h3, h4, rfl⟩
theorem falls_spec {z ch : Int} {can : Int → Bool} {k : CN} (hch : ch ≤ 3) (hs : 1 ≤ k.st ∧ k.st ≤ 3) (hsp : 0 ≤ k.sp ∧ k.sp ≤ 3) (hz : 1 ≤ z ∧ z ≤ 4) (hca : k.st = 3 → 1 ≤ k.ca ∧ k.ca ≤ 4) :
    (0 ≤ (k.falls z ch can).1.sp ∧ (k.falls z ch can).1.sp ≤ 3) ∧ ((k.falls z ch can).2 = true → (k.falls z ch can).1.st = 3) ∧ ((k.falls z ch can).2 = false → (k.falls z ch can).1.st = 4) ∧ (1 ≤ (k.falls z ch can).1.ca ∧ (k.falls z ch can).1.ca ≤ 4) ∧ (k.falls z ch can).1.tm = k.tm := by
  have hw : 1 ≤ k.why z ∧ k.why z ≤ 4 := by
    unfold CN.why
    split
    · rename_i e; exact hca e
    · exact hz
  have key : (0 ≤ (k.fail z ch).sp ∧ (k.fail z ch).sp ≤ 3) ∧ (k.fails ch = true → (k.fail z ch).st = 3) ∧ (k.fails ch = false → (k.fail z ch).st = 4) ∧ (1 ≤ (k.fail z ch).ca ∧ (k.fail z ch).ca ≤ 4) ∧ (k.fail z ch).tm = k.tm := by
    unfold CN.fail CN.fails
    rw [if_pos hs]
    split
    · refine ⟨⟨by simp only; omega, by simp only; omega⟩, fun _ => rfl, fun hf => ?_, hw, rfl⟩
      have := of_decide_eq_false hf
      exact absurd ⟨hs, by assumption⟩ this
    · refine ⟨hsp, fun hf => ?_, fun _ => rfl, hw, rfl⟩
      have := of_decide_eq_true hf
      omega
  obtain ⟨a, b, d, e, f⟩ := key
  obtain ⟨a', b', d', e', f'⟩ := goL_spec (z := z) (can := can) hch 8 (k.fail z ch) (k.fails ch) a b d e
  exact ⟨a', b', d', e', f'.trans f⟩
theorem OkE.fall (h : OkE (· = i) c S) {x : CL} (hx : x.id = i) (hs : CLs x) (h13 : x.k.st ≤ 3) {z : Int} (hz : 1 ≤ z ∧ z ≤ 4) (hw : i ∉ S.bul.wait) (hp : S.pr ≠ i) (now : Nat) : Ok c (S.fall c now x z).S := by
  obtain ⟨a, b, d, e, f⟩ := falls_spec (z := z) (can := S.can c x.id) h.may.chain.2 ⟨hs.st.1, h13⟩ hs.sp hz hs.ca
  unfold DS.fall DS.fallsTo
  dsimp only
  split
  · rename_i hm
    have h' : OkE (· = i) c (S.fbB (insH (x.id, (x.k.falls z c.chain (S.can c x.id)).1.sp) S.fb)) := by
      refine ⟨h.cf, h.may, h.brk, h.cl, fun y hy hn => (h.good y hy hn).of id id (fun s hs => mem_insH.2 (.inr hs)), h.run, h.wait, fun q hq hn => ?_, h.pr⟩
      rcases mem_insH.1 hq with rfl | hq
      · exact absurd hx hn
      · exact h.fbk q hq hn
    exact h'.keep hx ⟨hs.sz, a, ⟨by show 1 ≤ (x.k.falls z c.chain (S.can c x.id)).1.st; rw [b hm]; decide, by show (x.k.falls z c.chain (S.can c x.id)).1.st ≤ 4; rw [b hm]; decide⟩, by show 0 ≤ (x.k.falls z c.chain (S.can c x.id)).1.tm ∧ (x.k.falls z c.chain (S.can c x.id)).1.tm ≤ 18446744073709551615; rw [f]; exact hs.tm, fun _ => e, hs.id⟩ (.inl (b hm)) (fun _ => mem_insH.2 (.inl (by rw [← hx]; rfl))) hw hp
  · rename_i hm
    have hm' : (x.k.falls z c.chain (S.can c x.id)).2 = false := by simpa using hm
    exact h.keep hx ⟨hs.sz, a, ⟨by show 1 ≤ (x.k.falls z c.chain (S.can c x.id)).1.st; rw [d hm']; decide, by show (x.k.falls z c.chain (S.can c x.id)).1.st ≤ 4; rw [d hm']; decide⟩, by show 0 ≤ (x.k.falls z c.chain (S.can c x.id)).1.tm ∧ (x.k.falls z c.chain (S.can c x.id)).1.tm ≤ 18446744073709551615; rw [f]; exact hs.tm, fun _ => e, hs.id⟩ (.inr (d hm')) (fun e3 => by have := d hm'; exact absurd (e3.symm.trans this) (by decide)) hw hp
/-- Counting turns neither calls, nor who runs, waits or falls back. -/
theorem OkE.count (h : OkE E c S) {now : Nat} (hn : now ≤ 18446744073709551615) (id : Int) (k : Nat) : OkE E c (S.count c now id k) ∧ (S.count c now id k).pr ≠ id ∨ OkE E c (S.count c now id k) ∧ (S.count c now id k).pr = 0 := by
  have hn' : (0 : Int) ≤ (now : Int) ∧ (now : Int) ≤ 18446744073709551615 := ⟨by omega, by omega⟩
  unfold DS.count
  dsimp only
  by_cases hp : S.pr = id
  · rw [if_pos (show (S.addW c now k).pr = id from hp)]
    right
    by_cases hk : k = 0
    · rw [if_pos hk]
      exact ⟨⟨h.cf, h.may, BK.done_fits h.brk hn' true, h.cl, fun x hx hn => (h.good x hx hn).same rfl rfl, h.run, h.wait, h.fbk, fun hc => absurd rfl hc⟩, rfl⟩
    · rw [if_neg hk]
      exact ⟨⟨h.cf, h.may, BK.done_fits h.brk hn' false, h.cl, fun x hx hn => (h.good x hx hn).same rfl rfl, h.run, h.wait, h.fbk, fun hc => absurd rfl hc⟩, rfl⟩
  · rw [if_neg (show ¬ (S.addW c now k).pr = id from hp)]
    left
    by_cases ho : (S.addW c now k).opens c = true
    · rw [if_pos ho]
      exact ⟨⟨h.cf, h.may, BK.trip_fits h.brk hn', h.cl, fun x hx hn => (h.good x hx hn).same rfl rfl, h.run, h.wait, h.fbk, h.pr⟩, hp⟩
    · rw [if_neg ho]
      exact ⟨⟨h.cf, h.may, h.brk, h.cl, fun x hx hn => (h.good x hx hn).same rfl rfl, h.run, h.wait, h.fbk, h.pr⟩, hp⟩
theorem OkE.counted (h : OkE E c S) {now : Nat} (hn : now ≤ 18446744073709551615) (k : Nat) (hi : i ≠ 0) : OkE E c (S.count c now i k) ∧ (S.count c now i k).pr ≠ i := by
  rcases h.count hn i k with ⟨a, b⟩ | ⟨a, b⟩
  · exact ⟨a, b⟩
  · exact ⟨a, by rw [b]; exact fun e => hi e.symm⟩
end DS
end Go.Proofs.YtgnccpmkdgfjeaaGreat

namespace Go.Proofs.YtgnccpmkdgfjeaaGreat
set_option linter.unusedVariables false
namespace DS
variable {E E' : Int → Prop} {c : Cnf} {S : DS} {i : Int}
theorem OkE.bul1 (h : OkE E c S) (b : BU) (he : ∀ j, E j → E' j) (hw : ∀ j ∈ b.wait, j ∈ S.bul.wait ∨ E' j) (hr : ∀ j ∈ b.run, j ∈ S.bul.run ∨ E' j) (hw' : ∀ j ∈ S.bul.wait, j ∈ b.wait ∨ E' j) (hr' : ∀ j ∈ S.bul.run, j ∈ b.run ∨ E' j) : OkE E' c (S.bulB b) :=
  ⟨h.cf, h.may, h.brk, h.cl, fun x hx hn => (h.good x hx (fun hc => hn (he _ hc))).of (fun hm => (hw' _ hm).resolve_right hn) (fun hm => (hr' _ hm).resolve_right hn) (fun _ => id),
   fun j hj hn => h.run j ((hr j hj).resolve_right hn) (fun hc => hn (he _ hc)), fun j hj hn => h.wait j ((hw j hj).resolve_right hn) (fun hc => hn (he _ hc)),
   fun q hq hn => h.fbk q hq (fun hc => hn (he _ hc)), fun hp hn => h.pr hp (fun hc => hn (he _ hc))⟩
/-- A call that waits or runs is put. -/
theorem OkE.liveE (h : OkE E c S) {y : CL} (hy : y.id = i) (hs : CLs y) (hl : (y.k.st = 1 ∧ i ∈ S.bul.wait ∧ i ∉ S.bul.run) ∨ (y.k.st = 2 ∧ i ∈ S.bul.run ∧ i ∉ S.bul.wait)) (hf : ∀ q ∈ S.fb, q.1 ≠ i) : OkE (fun j => E j ∧ j ≠ i) c (S.put y) := by
  subst hy
  have hex : ∀ j, j ≠ y.id → ∀ P : CL → Prop, (∃ x ∈ S.cs, x.id = j ∧ P x) → ∃ x ∈ (S.put y).cs, x.id = j ∧ P x := fun j hj P ⟨x, hx, e, q⟩ => ⟨x, put_mem.2 (.inl ⟨hx, by rw [e]; exact hj⟩), e, q⟩
  have hself : y ∈ (S.put y).cs := put_mem.2 (.inr rfl)
  refine ⟨h.cf, h.may, h.brk, fun x hx => ?_, fun x hx hE => ?_, fun j hj hE => ?_, fun j hj hE => ?_, fun q hq hE => ?_, fun hp0 hE => ?_⟩
  · rcases put_mem.1 hx with ⟨hx, _⟩ | rfl
    · exact h.cl x hx
    · exact hs
  · rcases put_mem.1 hx with ⟨hx, hn⟩ | rfl
    · exact (h.good x hx (fun hc => hE ⟨hc, hn⟩)).same rfl rfl
    · rcases hl with ⟨e, a, b⟩ | ⟨e, a, b⟩
      · exact ⟨fun _ => a, fun e2 => by omega, fun e2 => by omega, fun e2 => by omega⟩
      · exact ⟨fun e2 => by omega, fun _ => a, fun e2 => by omega, fun e2 => by omega⟩
  · by_cases hj' : j = y.id
    · rcases hl with ⟨e, a, b⟩ | ⟨e, a, b⟩
      · exact absurd (by rw [← hj']; exact hj) b
      · exact ⟨y, hself, hj'.symm, by omega⟩
    · exact hex j hj' _ (h.run j hj (fun hc => hE ⟨hc, hj'⟩))
  · by_cases hj' : j = y.id
    · rcases hl with ⟨e, a, b⟩ | ⟨e, a, b⟩
      · exact ⟨y, hself, hj'.symm, e⟩
      · exact absurd (by rw [← hj']; exact hj) b
    · exact hex j hj' _ (h.wait j hj (fun hc => hE ⟨hc, hj'⟩))
  · exact hex q.1 (hf q hq) _ (h.fbk q hq (fun hc => hE ⟨hc, hf q hq⟩))
  · by_cases hp : S.pr = y.id
    · exact ⟨y, hself, hp.symm, by rcases hl with ⟨e, _⟩ | ⟨e, _⟩ <;> omega⟩
    · exact hex S.pr hp _ (h.pr hp0 (fun hc => hE ⟨hc, hp⟩))
theorem OkE.live (h : OkE (· = i) c S) {y : CL} (hy : y.id = i) (hs : CLs y) (hl : (y.k.st = 1 ∧ i ∈ S.bul.wait ∧ i ∉ S.bul.run) ∨ (y.k.st = 2 ∧ i ∈ S.bul.run ∧ i ∉ S.bul.wait)) (hf : ∀ q ∈ S.fb, q.1 ≠ i) : Ok c (S.put y) :=
  (h.liveE hy hs hl hf).weak (fun j hj => hj.2 hj.1)
theorem find_of (hu : (S.cs.map CL.id).Nodup) {x : CL} (hx : x ∈ S.cs) (he : x.id = i) : S.find i = some x := by
  subst he
  exact find_mem hu hx
theorem find_in {x : CL} (h : S.find i = some x) : x ∈ S.cs ∧ x.id = i := cfind_some h
theorem same_of (hu : (S.cs.map CL.id).Nodup) {x y : CL} (hx : S.find i = some x) (hy : y ∈ S.cs) (he : y.id = i) : y = x := by
  have := find_of hu hy he
  rw [hx] at this
  injection this with this
  exact this.symm
theorem CLs.run {x : CL} (h : CLs x) (e : x.k.st = 1) : CLs (x.at_ x.k.run) ∧ (x.at_ x.k.run).k.st = 2 := by
  have hr : x.k.run = ⟨2, x.k.sp, x.k.ca, x.k.tm⟩ := by unfold CN.run; rw [if_pos e]
  rw [hr]
  exact ⟨⟨h.sz, h.sp, ⟨(by decide : (1 : Int) ≤ 2), (by decide : (2 : Int) ≤ 4)⟩, h.tm, fun e => absurd (show (2 : Int) = 3 from e) (by decide), h.id⟩, rfl⟩
theorem CLs.fin {x : CL} (h : CLs x) (e : x.k.st ≤ 3) : CLs (x.at_ x.k.fin) ∧ (x.at_ x.k.fin).k.st = 4 := by
  have hr : x.k.fin = ⟨4, x.k.sp, x.k.ca, x.k.tm⟩ := by unfold CN.fin; rw [if_pos ⟨h.st.1, e⟩]
  rw [hr]
  exact ⟨⟨h.sz, h.sp, ⟨(by decide : (1 : Int) ≤ 4), (by decide : (4 : Int) ≤ 4)⟩, h.tm, fun e => absurd (show (4 : Int) = 3 from e) (by decide), h.id⟩, rfl⟩
/-- One that waited runs now. -/
theorem OkE.runs1 (h : OkE (· = i) c S) {x : CL} (hx : S.find i = some x) (e : x.k.st = 1) (hr : i ∈ S.bul.run) (hw : i ∉ S.bul.wait) (hf : ∀ q ∈ S.fb, q.1 ≠ i) : Ok c (S.run1 i) := by
  rw [run1_of hx]
  have hin := find_in hx
  obtain ⟨a, b⟩ := CLs.run (h.cl x hin.1) e
  exact h.live (y := x.at_ x.k.run) hin.2 a (.inr ⟨b, hr, hw⟩) hf
theorem Ok.nofb (h : Ok c S) (hu : (S.cs.map CL.id).Nodup) {x : CL} (hx : S.find i = some x) (e : x.k.st ≤ 2) : ∀ q ∈ S.fb, q.1 ≠ i := by
  intro q hq hc
  obtain ⟨y, hy, h1, h2⟩ := h.fbk q hq id
  have := same_of hu hx hy (h1.trans hc)
  subst this
  omega
theorem Ok.waits1 (h : Ok c S) (hu : (S.cs.map CL.id).Nodup) (hi : i ∈ S.bul.wait) : ∃ x, S.find i = some x ∧ x.k.st = 1 := by
  obtain ⟨x, hx, e, s⟩ := h.wait i hi id
  exact ⟨x, find_of hu hx e, s⟩
theorem Ok.runs2 (h : Ok c S) (hu : (S.cs.map CL.id).Nodup) (hi : i ∈ S.bul.run) : ∃ x, S.find i = some x ∧ x.k.st ≠ 1 := by
  obtain ⟨x, hx, e, s⟩ := h.run i hi id
  exact ⟨x, find_of hu hx e, s⟩
/-- The first one that waits, runs. -/
theorem Ok.turn (h : Ok c S) (hu : (S.cs.map CL.id).Nodup) (ho : S.bul.Ok) {y : Int} {l : List Int} (hw : S.bul.wait = y :: l) : Ok c ((S.bulB (S.bul.turn y l)).run1 y) := by
  have hy : y ∈ S.bul.wait := by rw [hw]; simp
  obtain ⟨x, hx, e⟩ := h.waits1 hu hy
  have hnd : y ∉ l := by have := ho.nw; rw [hw, List.nodup_cons] at this; exact this.1
  have h' : OkE (· = y) c (S.bulB (S.bul.turn y l)) := h.bul1 _ (fun _ hc => hc.elim) (fun j hj => .inl (by rw [hw]; exact List.mem_cons_of_mem _ hj)) (fun j hj => by rcases List.mem_append.1 (show j ∈ S.bul.run ++ [y] from hj) with hj | hj; exact .inl hj; exact .inr (by simpa using hj))
    (fun j hj => by rw [hw] at hj; rcases List.mem_cons.1 hj with hj | hj; exact .inr hj; exact .inl hj) (fun j hj => .inl (List.mem_append.2 (.inl hj)))
  exact h'.runs1 hx e (List.mem_append.2 (.inr (by simp))) hnd (h.nofb hu hx (by omega))
theorem Ok.pick (h : Ok c S) (hu : (S.cs.map CL.id).Nodup) (ho : S.bul.Ok) : Ok c S.pick.S := by
  unfold DS.pick
  by_cases hp : S.bul.picked = true
  · rw [if_pos hp]
    unfold BU.picked at hp
    split at hp
    · cases hp
    · rename_i y l hw
      have hlt := of_decide_eq_true hp
      have e1 : S.bul.pick = S.bul.turn y l := by unfold BU.pick; rw [hw]; exact if_pos hlt
      have e2 : S.bul.first = y := by unfold BU.first; rw [hw]; exact if_pos hlt
      rw [e1, e2]
      exact h.turn hu ho hw
  · rw [if_neg hp]
    exact h
theorem Ok.npr (h : Ok c S) (hu : (S.cs.map CL.id).Nodup) {x : CL} (hx : S.find i = some x) (e : 3 ≤ x.k.st) : S.pr ≠ i := by
  intro hc
  have h0 : S.pr ≠ 0 := by rw [hc]; have := (h.cl x (find_in hx).1).id; rw [(find_in hx).2] at this; omega
  obtain ⟨y, hy, h1, h2⟩ := h.pr h0 id
  have := same_of hu hx hy (h1.trans hc)
  subst this
  omega
theorem Ok.nwait (h : Ok c S) (hu : (S.cs.map CL.id).Nodup) {x : CL} (hx : S.find i = some x) (e : x.k.st ≠ 1) : i ∉ S.bul.wait := by
  intro hc
  obtain ⟨y, hy, h1⟩ := h.waits1 hu hc
  rw [hx] at hy
  injection hy with hy
  subst hy
  exact e h1
theorem Ok.freed (h : Ok c S) (i : Int) : OkE (· = i) c (S.bulB (S.bul.free i)) :=
  h.bul1 _ (fun _ hc => hc.elim) (fun j hj => .inl hj) (fun j hj => .inl (List.mem_of_mem_erase hj)) (fun j hj => .inl hj) (fun j hj => by
    by_cases e : j = i
    · exact .inr e
    · exact .inl ((List.mem_erase_of_ne e).2 hj))
theorem Ok.dropped (h : Ok c S) (i : Int) : OkE (· = i) c (S.bulB (S.bul.drop i)) :=
  h.bul1 _ (fun _ hc => hc.elim) (fun j hj => .inl (List.mem_of_mem_erase hj)) (fun j hj => .inl hj) (fun j hj => by
    by_cases e : j = i
    · exact .inr e
    · exact .inl ((List.mem_erase_of_ne e).2 hj)) (fun j hj => .inl hj)
theorem Ok.answer (h : Ok c S) (hu : (S.cs.map CL.id).Nodup) (now : Nat) (hn : now ≤ 18446744073709551615) (i : Int) (ok : Bool) (vs : List Int) : Ok c (S.answer c now i ok vs).S := by
  unfold DS.answer
  by_cases hi : i ∈ S.bul.run
  · rw [if_pos hi]
    obtain ⟨x, hx, hs⟩ := h.runs2 hu hi
    rw [hx]
    dsimp only
    have hin := find_in hx
    have hcl := h.cl x hin.1
    have hf := h.freed i
    have hw := h.nwait hu hx hs
    have hi0 : i ≠ 0 := by have := hcl.id; rw [hin.2] at this; omega
    by_cases h2 : x.k.st = 2
    · rw [if_pos h2]
      split
      · obtain ⟨a, b⟩ := hf.counted hn 0 hi0
        obtain ⟨d, e⟩ := CLs.fin hcl (by omega)
        have a' : OkE (· = i) c (((S.bulB (S.bul.free i)).count c now i 0).addH c now (subS now x.k.tm)) := ⟨a.cf, a.may, a.brk, a.cl, fun z hz hn => (a.good z hz hn).same rfl rfl, a.run, a.wait, a.fbk, a.pr⟩
        exact a'.keep (y := x.at_ x.k.fin) hin.2 d (.inr e) (fun e3 => by omega) (by show i ∉ (DS.count c (S.bulB (S.bul.free i)) now i 0).bul.wait; rw [count_bul]; exact hw) b
      · obtain ⟨a, b⟩ := hf.counted hn 1 hi0
        exact a.fall hin.2 hcl (by omega) (by decide) (by rw [count_bul]; exact hw) b now
    · rw [if_neg h2]
      have h34 : x.k.st = 3 ∨ x.k.st = 4 := by have := hcl.st; omega
      exact hf.keep hin.2 hcl h34 (fun e3 => by have := (h.good x hin.1 id).g3 e3; rw [hin.2] at this; exact this) hw (h.npr hu hx (by omega))
  · rw [if_neg hi]
    exact h
theorem Ok.fbout (h : Ok c S) (i st : Int) : OkE (· = i) c (S.fbB (outH (i, st) S.fb)) :=
  ⟨h.cf, h.may, h.brk, h.cl, fun x hx hn => (h.good x hx id).of id id (fun s hs => mem_outH.2 ⟨hs, fun e => hn (congrArg Prod.fst e)⟩), fun j hj _ => h.run j hj id, fun j hj _ => h.wait j hj id, fun q hq _ => h.fbk q (mem_outH.1 hq).1 id, fun hp _ => h.pr hp id⟩
theorem Ok.fallback (h : Ok c S) (hu : (S.cs.map CL.id).Nodup) (now : Nat) (i st : Int) (ok : Bool) (vs : List Int) : Ok c (S.fallback c now i st ok vs).S := by
  unfold DS.fallback
  by_cases hi : (i, st) ∈ S.fb
  · rw [if_pos hi]
    obtain ⟨x, hxm, he, hs⟩ := h.fbk _ hi id
    have hx := find_of hu hxm he
    rw [hx]
    dsimp only
    have hcl := h.cl x hxm
    have hf := h.fbout i st
    have hw := h.nwait hu hx (by omega)
    have hp := h.npr hu hx hs
    by_cases h3 : x.k.st = 3 ∧ x.k.sp = st
    · rw [if_pos h3]
      split
      · obtain ⟨d, e⟩ := CLs.fin hcl (by omega)
        exact hf.keep (y := x.at_ x.k.fin) he d (.inr e) (fun e3 => by omega) hw hp
      · exact hf.fall he hcl (by omega) (hcl.ca h3.1) hw hp now
    · rw [if_neg h3]
      have h34 : x.k.st = 3 ∨ x.k.st = 4 := by have := hcl.st; omega
      exact hf.keep he hcl h34 (fun e3 => mem_outH.2 ⟨by have := (h.good x hxm id).g3 e3; rw [he] at this; exact this, fun e => h3 ⟨e3, congrArg Prod.snd e⟩⟩) hw hp
  · rw [if_neg hi]
    exact h
theorem Ok.late (h : Ok c S) (hu : (S.cs.map CL.id).Nodup) (ho : S.bul.Ok) (now : Nat) (hn : now ≤ 18446744073709551615) (i : Int) : Ok c (S.late c now i).S := by
  unfold DS.late
  cases hx : S.find i with
  | none => exact h
  | some x =>
    dsimp only
    have hin := find_in hx
    have hcl := h.cl x hin.1
    have hi0 : i ≠ 0 := by have := hcl.id; rw [hin.2] at this; omega
    by_cases h1 : x.k.st = 1
    · rw [if_pos h1]
      obtain ⟨a, b⟩ := (h.dropped i).counted hn 2 hi0
      exact a.fall hin.2 hcl (by omega) (by decide) (by rw [count_bul]; show i ∉ S.bul.wait.erase i; rw [ho.nw.mem_erase_iff]; exact fun hc => hc.1 rfl) b now
    · rw [if_neg h1]
      have hw := h.nwait hu hx h1
      by_cases h2 : x.k.st = 2
      · rw [if_pos h2]
        obtain ⟨a, b⟩ := (h.but i).counted hn 2 hi0
        exact a.fall hin.2 hcl (by omega) (by decide) (by rw [count_bul]; exact hw) b now
      · rw [if_neg h2]
        by_cases h3 : x.k.st = 3
        · rw [if_pos h3]
          exact (h.but i).fall hin.2 hcl (by omega) (by decide) hw (h.npr hu hx (by omega)) now
        · rw [if_neg h3]
          exact h
theorem Ok.look (h : Ok c S) (now : Nat) : Ok c (S.look c now) := ⟨h.cf, h.may, h.brk, h.cl, fun x hx hn => (h.good x hx hn).same rfl rfl, h.run, h.wait, h.fbk, h.pr⟩
theorem Ok.fine (h : Ok c S) (hu : (S.cs.map CL.id).Nodup) (hl : S.cs.length ≤ 1000) : S.Fine c :=
  ⟨h.cf, h.may, h.brk, fun x hx => ⟨(h.cl x hx).sz, (h.cl x hx).sp, (h.cl x hx).st, (h.cl x hx).tm⟩,
   fun j hj => by obtain ⟨x, hx, _⟩ := h.runs2 hu hj; exact ⟨x, hx⟩, fun j hj => by obtain ⟨x, hx, _⟩ := h.waits1 hu hj; exact ⟨x, hx⟩, fun q hq => by obtain ⟨x, hx, e, _⟩ := h.fbk q hq id; exact ⟨x, find_of hu hx e⟩, hl⟩
theorem adm_three {S : BU} {x : Int} (h : S.tells x = 3) : S.adm x = S := by
  unfold BU.tells at h
  unfold BU.adm
  split at h
  · rename_i h1; rw [if_pos h1]
  · rename_i h1
    rw [if_neg h1]
    split at h
    · cases h
    · rename_i h2
      rw [if_neg h2]
      split at h
      · cases h
      · rename_i h3
        rw [if_neg h3]
        split at h
        · rfl
        · rename_i y l h4
          split at h
          · cases h
          · rename_i h5; exact if_neg h5
theorem adm_one {S : BU} {x : Int} (h : S.tells x = 1) : S.adm x = S.runs x := by
  unfold BU.tells at h
  unfold BU.adm
  split at h
  · cases h
  · rename_i h1
    rw [if_neg h1]
    split at h
    · rename_i h2; rw [if_pos h2]
    · split at h
      · cases h
      · split at h
        · cases h
        · split at h <;> cases h
theorem adm_two {S : BU} {x : Int} (h : S.tells x = 2) : (S.adm x = S.waits x ∧ S.lets x = []) ∨ ∃ y l, S.wait = y :: l ∧ S.run.length < S.most ∧ S.adm x = (S.turn y l).waits x ∧ S.lets x = [y] := by
  unfold BU.tells at h
  unfold BU.adm BU.lets
  split at h
  · cases h
  · rename_i h1
    rw [if_neg h1, if_neg h1]
    split at h
    · cases h
    · rename_i h2
      rw [if_neg h2, if_neg h2]
      split at h
      · rename_i h3
        rw [if_pos h3, if_pos h3]
        exact .inl ⟨rfl, rfl⟩
      · rename_i h3
        rw [if_neg h3, if_neg h3]
        split at h
        · cases h
        · rename_i y l h4
          split at h
          · rename_i h5
            right
            refine ⟨y, l, h4, h5, ?_, ?_⟩
            · exact if_pos h5
            · exact if_pos h5
          · cases h
theorem find_not (h : S.find i = none) : ∀ y ∈ S.cs, y.id ≠ i := cfind_none.1 h
theorem Ok.new_not (h : Ok c S) (hi : S.find i = none) (h0 : i ≠ 0) : i ∉ S.bul.wait ∧ i ∉ S.bul.run ∧ (∀ q ∈ S.fb, q.1 ≠ i) ∧ S.pr ≠ i := by
  have hno := find_not hi
  refine ⟨fun hc => ?_, fun hc => ?_, fun q hq hc => ?_, fun hc => ?_⟩
  · obtain ⟨y, hy, e, _⟩ := h.wait i hc id; exact hno y hy e
  · obtain ⟨y, hy, e, _⟩ := h.run i hc id; exact hno y hy e
  · obtain ⟨y, hy, e, _⟩ := h.fbk q hq id; exact hno y hy (e.trans hc)
  · obtain ⟨y, hy, e, _⟩ := h.pr (by rw [hc]; exact h0) id; exact hno y hy (e.trans hc)
theorem OkE.asked (h : OkE (· = i) c S) (now : Int) (told : Int) : OkE (· = i) c ((S.askB now).prob told i) := by
  unfold DS.prob
  split
  · exact ⟨h.cf, h.may, BK.ask_fits h.brk now, h.cl, fun x hx hn => (h.good x hx hn).same rfl rfl, h.run, h.wait, h.fbk, fun _ hn => absurd rfl hn⟩
  · exact ⟨h.cf, h.may, BK.ask_fits h.brk now, h.cl, fun x hx hn => (h.good x hx hn).same rfl rfl, h.run, h.wait, h.fbk, h.pr⟩
theorem prob_bul (S : DS) (now told : Int) : ((S.askB now).prob told i).bul = S.bul ∧ ((S.askB now).prob told i).fb = S.fb ∧ ((S.askB now).prob told i).cs = S.cs := by
  unfold DS.prob; split <;> exact ⟨rfl, rfl, rfl⟩
theorem Ok.enter (h : Ok c S) (hu : (S.cs.map CL.id).Nodup) (ho : S.bul.Ok) (now : Nat) (hn : now ≤ 18446744073709551615) {x : CL} (hx : S.find x.id = none) (hs : CLs x) (h1 : x.k.st = 1) : Ok c (S.enter c now x).S := by
  have h0 : x.id ≠ 0 := by have := hs.id; omega
  obtain ⟨nw, nr, nf, np⟩ := h.new_not hx h0
  unfold DS.enter
  dsimp only
  split
  · have a : OkE (· = x.id) c ((S.askB now).addW c now 4) := ⟨h.cf, h.may, BK.ask_fits h.brk now, h.cl, fun z hz hn => (h.good z hz id).same rfl rfl, (h.but _).run, (h.but _).wait, (h.but _).fbk, (h.but _).pr⟩
    exact a.fall rfl hs (by omega) (by decide) nw np now
  · have a := (h.but x.id).asked now (S.brk.asked now)
    obtain ⟨eb, ef, ec⟩ := prob_bul (i := x.id) S now (S.brk.asked now)
    obtain ⟨U, hU⟩ : ∃ U, (S.askB now).prob (S.brk.asked now) x.id = U := ⟨_, rfl⟩
    rw [hU] at a eb ef ec ⊢
    rw [← eb] at nw nr
    rw [← ef] at nf
    have nx : U.find x.id = none := by unfold DS.find at hx ⊢; rw [ec]; exact hx
    split
    · rename_i ht
      rw [adm_three ht]
      unfold DS.refused
      have b : OkE (· = x.id) c (if (U.bulB U.bul).pr = x.id then ((U.bulB U.bul).backB).pr_ 0 else U.bulB U.bul) := by
        split
        · exact ⟨a.cf, a.may, BK.back_fits a.brk, a.cl, fun z hz hn => (a.good z hz hn).same rfl rfl, a.run, a.wait, a.fbk, fun hc => absurd rfl hc⟩
        · exact a
      have bb : (if (U.bulB U.bul).pr = x.id then ((U.bulB U.bul).backB).pr_ 0 else U.bulB U.bul).bul = U.bul := by split <;> rfl
      obtain ⟨d, e⟩ := b.counted hn 3 h0
      exact d.fall rfl hs (by omega) (by decide) (by rw [count_bul, bb]; exact nw) e now
    · rename_i ht
      rcases BU.tells_of U.bul x.id with t | t | t
      · rw [if_pos t, BU.lets_one t, adm_one t]
        have b : OkE (· = x.id) c (U.bulB (U.bul.runs x.id)) := a.bul1 _ (fun _ hc => hc) (fun j hj => .inl hj) (fun j hj => by rcases List.mem_append.1 (show j ∈ U.bul.run ++ [x.id] from hj) with hj | hj; exact .inl hj; exact .inr (by simpa using hj)) (fun j hj => .inl hj) (fun j hj => .inl (List.mem_append.2 (.inl hj)))
        have hf2 : ((U.bulB (U.bul.runs x.id)).put x).find x.id = some x := by rw [find_put, if_pos rfl]
        have b2 : OkE (· = x.id) c ((U.bulB (U.bul.runs x.id)).put x) := by
          refine ⟨b.cf, b.may, b.brk, fun z hz => ?_, fun z hz hn => ?_, fun j hj hn => ?_, fun j hj hn => ?_, fun q hq hn => ?_, fun hp hn => ?_⟩
          · rcases put_mem.1 hz with ⟨hz, _⟩ | rfl
            · exact b.cl z hz
            · exact hs
          · rcases put_mem.1 hz with ⟨hz, _⟩ | rfl
            · exact (b.good z hz hn).same rfl rfl
            · exact absurd rfl hn
          · obtain ⟨z, hz, e, q⟩ := b.run j hj hn
            exact ⟨z, put_mem.2 (.inl ⟨hz, by rw [e]; exact hn⟩), e, q⟩
          · obtain ⟨z, hz, e, q⟩ := b.wait j hj hn
            exact ⟨z, put_mem.2 (.inl ⟨hz, by rw [e]; exact hn⟩), e, q⟩
          · obtain ⟨z, hz, e, p⟩ := b.fbk q hq hn
            exact ⟨z, put_mem.2 (.inl ⟨hz, by rw [e]; exact hn⟩), e, p⟩
          · obtain ⟨z, hz, e, q⟩ := b.pr hp hn
            exact ⟨z, put_mem.2 (.inl ⟨hz, by rw [e]; exact hn⟩), e, q⟩
        exact b2.runs1 hf2 h1 (List.mem_append.2 (.inr (by simp))) nw nf
      · rw [if_neg (by omega)]
        rcases adm_two t with ⟨e1, e2⟩ | ⟨y, l, hwt, hlt, e1, e2⟩
        · rw [e1, e2]
          have b : OkE (· = x.id) c (U.bulB (U.bul.waits x.id)) := a.bul1 _ (fun _ hc => hc) (fun j hj => by rcases List.mem_append.1 (show j ∈ U.bul.wait ++ [x.id] from hj) with hj | hj; exact .inl hj; exact .inr (by simpa using hj)) (fun j hj => .inl hj) (fun j hj => .inl (List.mem_append.2 (.inl hj))) (fun j hj => .inl hj)
          exact b.live rfl hs (.inl ⟨h1, List.mem_append.2 (.inr (by simp)), nr⟩) nf
        · rw [e1, e2]
          have hwt' : S.bul.wait = y :: l := by rw [← eb]; exact hwt
          have hyw : y ∈ S.bul.wait := by rw [hwt']; simp
          obtain ⟨xy, hxy, ey⟩ := h.waits1 hu hyw
          have hyx : y ≠ x.id := fun e => by rw [← e, hxy] at hx; cases hx
          have hnd : y ∉ l := by have := ho.nw; rw [hwt', List.nodup_cons] at this; exact this.1
          have b : OkE (fun j => j = x.id ∨ j = y) c (U.bulB ((U.bul.turn y l).waits x.id)) := a.bul1 _ (fun _ hc => .inl hc)
            (fun j hj => by rcases List.mem_append.1 (show j ∈ l ++ [x.id] from hj) with hj | hj; exact .inl (by rw [hwt]; exact List.mem_cons_of_mem _ hj); exact .inr (.inl (by simpa using hj)))
            (fun j hj => by rcases List.mem_append.1 (show j ∈ U.bul.run ++ [y] from hj) with hj | hj; exact .inl hj; exact .inr (.inr (by simpa using hj)))
            (fun j hj => by rw [hwt] at hj; rcases List.mem_cons.1 hj with hj | hj; exact .inr (.inr hj); exact .inl (List.mem_append.2 (.inl hj)))
            (fun j hj => .inl (List.mem_append.2 (.inl hj)))
          have nr2 : x.id ∉ (U.bul.turn y l).run := fun hc => by rcases List.mem_append.1 (show x.id ∈ U.bul.run ++ [y] from hc) with hc | hc; exact nr hc; exact hyx (show x.id = y by simpa using hc).symm
          have b2 := (b.liveE rfl hs (.inl ⟨h1, List.mem_append.2 (.inr (by simp)), nr2⟩) nf).weak (E' := (· = y)) (fun j hj => hj.1.resolve_left hj.2)
          have hf2 : ((U.bulB ((U.bul.turn y l).waits x.id)).put x).find y = some xy := by
            rw [find_put, if_neg hyx]
            have : U.find y = some xy := by unfold DS.find at hxy ⊢; rw [ec]; exact hxy
            exact this
          refine b2.runs1 hf2 ey (List.mem_append.2 (.inr (by simp))) (fun hc => ?_) (fun q hq => ?_)
          · rcases List.mem_append.1 (show y ∈ l ++ [x.id] from hc) with hc | hc
            · exact hnd hc
            · exact hyx (by simpa using hc)
          · exact h.nofb hu hxy (by omega) q (by rw [← ef]; exact hq)
      · exact absurd t ht
theorem Ok.offer (h : Ok c S) (hu : (S.cs.map CL.id).Nodup) (ho : S.bul.Ok) (now : Nat) (hn : now ≤ 18446744073709551615) (zs : List Int) (ms : List P2) (h1 : zs.length ≤ 1000) (h2 : ms.length ≤ 1000) : Ok c (S.offer c now zs ms).S := by
  unfold DS.offer
  split
  · exact h
  · split
    · exact h
    · rename_i hl hk
      exact h.enter hu ho now hn (x := ⟨zs, ms, CN.new now⟩) (by
        have : S.knows (leadL ms) = false := by simpa using hk
        unfold DS.knows at this
        cases hf : S.find (leadL ms) with
        | none => exact hf
        | some y => rw [hf] at this; cases this)
        ⟨⟨h1, h2⟩, ⟨Int.le_refl 0, (by decide : (0 : Int) ≤ 3)⟩, ⟨Int.le_refl 1, (by decide : (1 : Int) ≤ 4)⟩, ⟨(by omega : (0 : Int) ≤ (now : Int)), (by omega : (now : Int) ≤ 18446744073709551615)⟩, fun e => absurd (show (1 : Int) = 3 from e) (by decide), (by omega : 1 ≤ leadL ms)⟩ rfl
theorem new_ok {c : Cnf} (hf : c.Fits) (hb : c.bad = 0) : Ok c (DS.new c) :=
  ⟨hf, Cnf.may_of hb, BK.ofC_fits hf, fun x hx => (by cases hx), fun x hx => (by cases hx), fun j hj => (by cases hj), fun j hj => (by cases hj), fun j hj => (by cases hj), fun h => absurd rfl h⟩
end DS
end Go.Proofs.YtgnccpmkdgfjeaaGreat
