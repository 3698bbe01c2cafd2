/- Contracts of the functions that the statement DepNobody reaches, part 5 of 5. -/
import Derived.Test.YtgnccpmkdgfjeaaGreatPart4
namespace Go.Proofs.YtgnccpmkdgfjeaaGreat
set_option linter.unusedVariables false
set_option maxRecDepth 100000
open Go.ChangeShapes Go.WideShapes Go.ChangeAt Go.RowKit

theorem answer_nil (now id : Int) (ok : Bool) (B : Option Addr) (q f : Nat) (w : World) : Calls Tryz.prog 26 #[.pointer none, .int .u64 now, .int .i64 id, .bool ok, .slice B q f] w fun r w' => r = .returned (.tuple #[.agg #[.slice none 0 0, .slice none 0 0], .int .i64 1]) ∧ Below w.heap.size w w' := by
  obtain ⟨g, hg⟩ : ∃ g, w.heap.size = g := ⟨_, rfl⟩
  go_enter Tryz.func26, Tryz.ntmps26
  go_wp2_with (first
    | (refine wpList_alloc_agg rfl 57 rfl g hg [.slice none 0 0, .slice none 0 0] (allocRs _) ?_; intro w1 k1 l1 s1; have K1 := Lib.hid k1; have L1 : Hid (Below w.heap.size w w1) := Lib.hid (by rw [hg]; exact l1); clear k1 l1 s1)
    | (refine wpList_build_agg rfl 57 #[] rfl [.slice none 0 0, .slice none 0 0] (buildRs _) ?_)
    | (refine wpList_store_agg rfl 57 _ _ rfl g [.slice none 0 0, .slice none 0 0] [.slice none 0 0, .slice none 0 0] rfl rfl ?hz rfl sizeRs (onesRs _ _ _ _ _ _) ?_; (case hz => exact K1.out); intro w2 k2 f2 _; have K2 := Lib.hid k2; have F2 := Lib.hid f2; clear k2 f2))
  refine bodyPost_ret (v := .tuple #[.agg #[.slice none 0 0, .slice none 0 0], .int .i64 1]) (results_agg1 Tryz.results26 rfl (loadRs K2.out) rfl) rfl ?_
  exact ⟨rfl, L1.out.trans (F2.out.below L1.out.size (fun j hj e => by have e' : j = g := e; omega))⟩

set_option maxHeartbeats 8000000 in
theorem answer_none (D : DB) (N : Nat → Prop) (c : Cnf) (S : DS) (now : Nat) (id : Int) (ok : Bool) (B : Option Addr) (q f : Nat) (vs : List Int) (w : World) (h : DepM w D N c S) (hf : S.Fine c) (hid : wf64 id) (hv : RowR irec w B q vs) (hvo : OffR D.F B q) (hnow : now ≤ 18446744073709551615) (hi : id ∉ S.bul.run) :
    Calls Tryz.prog 26 #[ptr D.db, .int .u64 now, .int .i64 id, .bool ok, .slice B q f] w (Told17 D N c (S.answer c now id ok vs) w) := by
  obtain ⟨g, hg⟩ : ∃ g, w.heap.size = g := ⟨_, rfl⟩
  obtain ⟨fs, hu⟩ := undCL
  have HU := Lib.hid hu
  obtain ⟨fr, hur⟩ := undRs
  have HUR := Lib.hid hur
  have H := Lib.hid h
  have HF := Lib.hid hf
  have HV := Lib.hid hv
  have HVO := Lib.hid hvo
  have hE : S.answer c now id ok vs = ⟨S, [], [], 3⟩ := by unfold DS.answer; rw [if_neg hi]
  have HIN : Hid (decide (id ∈ S.bul.run) = false) := Lib.hid (decide_eq_false hi)
  have HFR : Hid (S.bul.free id = S.bul) := Lib.hid (by unfold BU.free; rw [List.erase_of_not_mem hi])
  obtain ⟨R, hR⟩ : ∃ R, S.answer c now id ok vs = R := ⟨_, rfl⟩
  rw [hR] at hE ⊢
  have HE := Lib.hid hE
  have HER : Hid (R.er = 3) := Lib.hid (by first | (rw [hE]; done) | (rw [hE]; rfl) | (rw [hE]; exact DS.fall_er _ _ _ _ _))
  clear hR hE h hf hv hvo hu hur hi
  unfold ptr
  go_enter Tryz.func26, Tryz.ntmps26
  go_wp2_with (first
    | (refine wpList_alloc_agg rfl 57 rfl g hg [.slice none 0 0, .slice none 0 0] (allocRs _) ?_; intro w1 k1 l1 s1; have K1 := Lib.hid k1; have L1 : Hid (Below w.heap.size w w1) := Lib.hid (by rw [hg]; exact l1); clear k1 l1 s1;
       obtain ⟨_, c1, _, _, c20, _, _⟩ := dobj_cells (H.out.below L1.out).blk)
    | (go_at_call 63; refine (free_bul D.ub D.f S.bul id w1 (H.out.below L1.out).bul hid).mono ?_; rintro r w2 ⟨rfl, x2, f2⟩; rw [HIN.out]; rw [HFR.out] at x2;
       have H2 : Hid (DepM w2 D (NU N w) c S) := Lib.hid ((H.out.nu.below L1.out).bul1 f2 x2);
       have K2 := Lib.hid ((f2.block g (heap_lt K1.out) (fun hc => by have := H.out.old (.inr (.inr (.inl hc)) : D.F g); omega)).trans K1.out);
       have F2 : Hid (Frm D.F w w2) := Lib.hid ((Frm.of_below L1.out).trans (f2.mono (F' := D.F) (fun j _ e => .inr (.inr (.inl e)))) (fun _ _ h => h)); clear x2 f2 c1 c20)
    | (refine wpList_build_agg rfl 57 #[] rfl [.slice none 0 0, .slice none 0 0] (buildRs _) ?_)
    | (refine wpList_store_agg rfl 57 _ _ rfl g [.slice none 0 0, .slice none 0 0] [.slice none 0 0, .slice none 0 0] rfl rfl ?hz rfl sizeRs (onesRs _ _ _ _ _ _) ?_; (case hz => exact K2.out); intro w3 k3 f3 _; have K3 := Lib.hid k3; have F3 := Lib.hid f3; clear k3 f3))
  refine bodyPost_ret (v := .tuple #[.agg #[.slice none 0 0, .slice none 0 0], .int .i64 3]) (results_agg1 Tryz.results26 rfl (loadRs K3.out) rfl) rfl ?_
  rw [HE.out]
  have h10 : DepM w3 D (NU N w) c _ := H2.out.frm1 F3.out (.inr (by omega)) (ty_cells K2.out) (by decide) (by decide) (by decide) (by decide) (by decide) (by decide) (by decide)
  exact ⟨⟨_, rfl, none, 0, 0, none, 0, 0, rfl, RowR.nil _, RowR.nil _, Fresh.none _, Fresh.none _⟩, h10.nu_nb H.out, F2.out.trans F3.out (fun j hj e => by have e' : j = g := e; exfalso; omega)⟩

set_option maxHeartbeats 8000000 in
theorem answer_keep (D : DB) (N : Nat → Prop) (c : Cnf) (S : DS) (now : Nat) (id : Int) (ok : Bool) (B : Option Addr) (q f : Nat) (vs : List Int) (w : World) (h : DepM w D N c S) (hf : S.Fine c) (hid : wf64 id) (hv : RowR irec w B q vs) (hvo : OffR D.F B q) (hnow : now ≤ 18446744073709551615) (hi : id ∈ S.bul.run) (x : CL) (hx : S.find id = some x) (hs : ¬ x.k.st = 2) :
    Calls Tryz.prog 26 #[ptr D.db, .int .u64 now, .int .i64 id, .bool ok, .slice B q f] w (Told17 D N c (S.answer c now id ok vs) w) := by
  obtain ⟨g, hg⟩ : ∃ g, w.heap.size = g := ⟨_, rfl⟩
  obtain ⟨fs, hu⟩ := undCL
  have HU := Lib.hid hu
  obtain ⟨fr, hur⟩ := undRs
  have HUR := Lib.hid hur
  have H := Lib.hid h
  have HF := Lib.hid hf
  have HV := Lib.hid hv
  have HVO := Lib.hid hvo
  have hE : S.answer c now id ok vs = ⟨(S.bulB (S.bul.free id)).keep x, [], [], 0⟩ := by unfold DS.answer; rw [if_pos hi]; dsimp only; rw [hx]; dsimp only; rw [if_neg hs]
  obtain ⟨TS, hTS⟩ : ∃ TS, S.bulB (S.bul.free id) = TS := ⟨_, rfl⟩
  rw [hTS] at hE
  have HTS := Lib.hid hTS.symm
  have HTC : Hid (TS.cs = S.cs) := Lib.hid (by rw [← hTS]; rfl)
  have HIN : Hid (decide (id ∈ S.bul.run) = true) := Lib.hid (decide_eq_true hi)
  clear hTS
  have HX := Lib.hid hx
  have HXS := Lib.hid (hf.small x (cfind_some hx).1)
  have HVC : Hid (OffR (· = D.cm) B q) := Lib.hid (hvo.mono (fun j e => by rw [e]; exact .inr (.inr (.inr (.inr (.inr (.inr rfl)))))))
  have e2 : (x.k.st != 2) = true := by simp [hs]
  obtain ⟨R, hR⟩ : ∃ R, S.answer c now id ok vs = R := ⟨_, rfl⟩
  rw [hR] at hE ⊢
  have HE := Lib.hid hE
  have HER : Hid (R.er = 0) := Lib.hid (by first | (rw [hE]; done) | (rw [hE]; rfl) | (rw [hE]; exact DS.fall_er _ _ _ _ _))
  clear hR hE h hf hv hvo hu hur hx hi hs
  unfold ptr
  go_enter Tryz.func26, Tryz.ntmps26
  go_wp2_with (first
    | (refine wpList_alloc_agg rfl 57 rfl g hg [.slice none 0 0, .slice none 0 0] (allocRs _) ?_; intro w1 k1 l1 s1; have K1 := Lib.hid k1; have L1 : Hid (Below w.heap.size w w1) := Lib.hid (by rw [hg]; exact l1); clear k1 l1 s1;
       obtain ⟨_, c1, _, _, c20, _, _⟩ := dobj_cells (H.out.below L1.out).blk)
    | (go_at_call 63; refine (free_bul D.ub D.f S.bul id w1 (H.out.below L1.out).bul hid).mono ?_; rintro r w2 ⟨rfl, x2, f2⟩; rw [HIN.out];
       have H2 : Hid (DepM w2 D (NU N w) c TS) := Lib.hid (by rw [HTS.out]; exact (H.out.nu.below L1.out).bul1 f2 x2);
       have K2 := Lib.hid ((f2.block g (heap_lt K1.out) (fun hc => by have := H.out.old (.inr (.inr (.inl hc)) : D.F g); omega)).trans K1.out);
       have F2 : Hid (Frm D.F w w2) := Lib.hid ((Frm.of_below L1.out).trans (f2.mono (F' := D.F) (fun j _ e => .inr (.inr (.inl e)))) (fun _ _ h => h)); clear x2 f2 c1 c20;
       obtain ⟨A, n, e, M, m, d, hlk, hbt, hof⟩ := H2.out.look (x := x) (by rw [show x.id = id from DS.find_id HX.out]; rw [HTS.out]; exact HX.out) (by rw [show x.id = id from DS.find_id HX.out]; exact hid) rfl;
       have HLK : (Instr.lookup 112 (.map (some D.cm)) (.int .i64 id) false).run Tryz.prog w2 = .ok (callV A n e M m d x.k) w2 := (by rw [show x.id = id from DS.find_id HX.out] at hlk; exact hlk);
       have BT := Lib.hid hbt; have OF := Lib.hid hof; have NM : Hid (n ≤ 1000 ∧ m ≤ 1000) := Lib.hid ⟨by rw [← hbt.alen]; exact HXS.out.1.1, by rw [← hbt.mlen]; exact HXS.out.1.2⟩;
       obtain ⟨_, _, _, _, _, c21, _⟩ := dobj_cells H2.out.blk; obtain ⟨g2, hg2⟩ : ∃ g2, w2.heap.size = g2 := ⟨_, rfl⟩; have G2 : Hid (g < g2) := Lib.hid (by rw [← hg2]; exact heap_lt K2.out);
       clear hlk hbt hof)
    | (refine wpList_alloc_agg rfl 135 rfl g2 hg2 (kvals none 0 0 none 0 0 ⟨0, 0, 0, 0⟩) (allocCl _) ?_; intro w3 k3 l3 s3; have K3 := Lib.hid k3; have L3 : Hid (Below w2.heap.size w2 w3) := Lib.hid (by rw [hg2]; exact l3); clear k3 l3 HLK c21)
    | (refine wpList_store_agg rfl 135 _ _ rfl g2 (kvals none 0 0 none 0 0 ⟨0, 0, 0, 0⟩) (kvals A n e M m d x.k) rfl rfl ?hz rfl sizeCL (onesK _ _ _ _ _ _ _) ?_; (case hz => exact K3.out); intro w4 k4 f4 z4;
       have K4 : Hid (w4.heap[g2]? = some (kobj A n e M m d x.k)) := Lib.hid k4; have L4 : Hid (Below w2.heap.size w2 w4) := Lib.hid (L3.out.trans (f4.below L3.out.size (fun j hj e => by have e' : j = g2 := e; omega)));
       have Z4 : Hid (w4.heap.size = g2 + 1) := Lib.hid (z4.trans s3);
       obtain ⟨q0, q1, q2, q3, q4, q5⟩ := kobj_cells' k4; clear k4 f4 z4)
    | (refine wpList_load_agg rfl 135 _ rfl g2 rfl (kvals A n e M m d x.k) ?hz _ HU.out rfl sizeCL ?_; (case hz => exact K4.out))
    | (go_at_call 64; refine (keep_any D (NU N w) c TS x A n e M m d w4 (H2.out.below L4.out) (BT.out.below L4.out) OF.out (by rw [HTC.out]; exact Nat.lt_of_succ_lt HF.out.max)).mono ?_; rintro r w5 ⟨rfl, h5, f5⟩;
       have NCM : Hid (D.cm < g) := Lib.hid (by have := H.out.old (.inr (.inr (.inr (.inr (.inr (.inr rfl))))) : D.F D.cm); omega);
       have H5 := Lib.hid h5; have K5 := Lib.hid ((f5.block g (heap_lt (kb_below K2.out L4.out)) (fun e => by have e' : g = D.cm := e; have := NCM.out; omega)).trans (kb_below K2.out L4.out));
       have F5 : Hid (Frm D.F w w5) := Lib.hid ((F2.out.then_below L4.out).trans (f5.mono (F' := D.F) (fun j _ e => .inr (.inr (.inr (.inr (.inr (.inr e))))))) (fun _ _ h => h)); clear h5 f5 q0 q1 q2 q3 q4 q5)
    | (refine wpList_build_agg rfl 57 #[] rfl [.slice none 0 0, .slice none 0 0] (buildRs _) ?_)
    | (refine wpList_store_agg rfl 57 _ _ rfl g [.slice none 0 0, .slice none 0 0] [.slice none 0 0, .slice none 0 0] rfl rfl ?hz rfl sizeRs (onesRs _ _ _ _ _ _) ?_; (case hz => exact K5.out); intro w6 k6 f6 _; have K6 := Lib.hid k6; have F6 := Lib.hid f6; clear k6 f6))
  refine bodyPost_ret (v := .tuple #[.agg #[.slice none 0 0, .slice none 0 0], .int .i64 0]) (results_agg1 Tryz.results26 rfl (loadRs K6.out) rfl) rfl ?_
  rw [HE.out]
  have h10 : DepM w6 D (NU N w) c _ := H5.out.frm1 F6.out (.inr (by omega)) (ty_cells K5.out) (by decide) (by decide) (by decide) (by decide) (by decide) (by decide) (by decide)
  exact ⟨⟨_, rfl, none, 0, 0, none, 0, 0, rfl, RowR.nil _, RowR.nil _, Fresh.none _, Fresh.none _⟩, h10.nu_nb H.out, F5.out.trans F6.out (fun j hj e => by have e' : j = g := e; exfalso; omega)⟩

set_option maxHeartbeats 8000000 in
theorem answer_not (D : DB) (N : Nat → Prop) (c : Cnf) (S : DS) (now : Nat) (id : Int) (ok : Bool) (B : Option Addr) (q f : Nat) (vs : List Int) (w : World) (h : DepM w D N c S) (hf : S.Fine c) (hid : wf64 id) (hv : RowR irec w B q vs) (hvo : OffR D.F B q) (hnow : now ≤ 18446744073709551615) (hi : id ∈ S.bul.run) (x : CL) (hx : S.find id = some x) (hs : x.k.st = 2) (ho : ok = false) :
    Calls Tryz.prog 26 #[ptr D.db, .int .u64 now, .int .i64 id, .bool ok, .slice B q f] w (Told17 D N c (S.answer c now id ok vs) w) := by
  obtain ⟨g, hg⟩ : ∃ g, w.heap.size = g := ⟨_, rfl⟩
  obtain ⟨fs, hu⟩ := undCL
  have HU := Lib.hid hu
  obtain ⟨fr, hur⟩ := undRs
  have HUR := Lib.hid hur
  have H := Lib.hid h
  have HF := Lib.hid hf
  have HV := Lib.hid hv
  have HVO := Lib.hid hvo
  have hE : S.answer c now id ok vs = (((S.bulB (S.bul.free id)).count c now id 1).fall c now x 1).after [⟨false, id, 0⟩] := by
    unfold DS.answer; rw [if_pos hi]; dsimp only; rw [hx]; dsimp only; rw [if_pos hs, if_neg (by rw [ho]; simp)]
  obtain ⟨TS, hTS⟩ : ∃ TS, S.bulB (S.bul.free id) = TS := ⟨_, rfl⟩
  rw [hTS] at hE
  have HTS := Lib.hid hTS.symm
  have HTC : Hid (TS.cs = S.cs) := Lib.hid (by rw [← hTS]; rfl)
  have HIN : Hid (decide (id ∈ S.bul.run) = true) := Lib.hid (decide_eq_true hi)
  clear hTS
  have HX := Lib.hid hx
  have HXS := Lib.hid (hf.small x (cfind_some hx).1)
  have HVC : Hid (OffR (· = D.cm) B q) := Lib.hid (hvo.mono (fun j e => by rw [e]; exact .inr (.inr (.inr (.inr (.inr (.inr rfl)))))))
  have e2 : (x.k.st != 2) = false := by simp [hs]
  obtain ⟨R, hR⟩ : ∃ R, S.answer c now id ok vs = R := ⟨_, rfl⟩
  rw [hR] at hE ⊢
  have HE := Lib.hid hE
  have HER : Hid (R.er = 0) := Lib.hid (by first | (rw [hE]; done) | (rw [hE]; rfl) | (rw [hE]; exact DS.fall_er _ _ _ _ _))
  clear hR hE h hf hv hvo hu hur hx hi hs
  subst ho
  unfold ptr
  go_enter Tryz.func26, Tryz.ntmps26
  go_wp2_with (first
    | (refine wpList_alloc_agg rfl 57 rfl g hg [.slice none 0 0, .slice none 0 0] (allocRs _) ?_; intro w1 k1 l1 s1; have K1 := Lib.hid k1; have L1 : Hid (Below w.heap.size w w1) := Lib.hid (by rw [hg]; exact l1); clear k1 l1 s1;
       obtain ⟨_, c1, _, _, c20, _, _⟩ := dobj_cells (H.out.below L1.out).blk)
    | (go_at_call 63; refine (free_bul D.ub D.f S.bul id w1 (H.out.below L1.out).bul hid).mono ?_; rintro r w2 ⟨rfl, x2, f2⟩; rw [HIN.out];
       have H2 : Hid (DepM w2 D (NU N w) c TS) := Lib.hid (by rw [HTS.out]; exact (H.out.nu.below L1.out).bul1 f2 x2);
       have K2 := Lib.hid ((f2.block g (heap_lt K1.out) (fun hc => by have := H.out.old (.inr (.inr (.inl hc)) : D.F g); omega)).trans K1.out);
       have F2 : Hid (Frm D.F w w2) := Lib.hid ((Frm.of_below L1.out).trans (f2.mono (F' := D.F) (fun j _ e => .inr (.inr (.inl e)))) (fun _ _ h => h)); clear x2 f2 c1 c20;
       obtain ⟨A, n, e, M, m, d, hlk, hbt, hof⟩ := H2.out.look (x := x) (by rw [show x.id = id from DS.find_id HX.out]; rw [HTS.out]; exact HX.out) (by rw [show x.id = id from DS.find_id HX.out]; exact hid) rfl;
       have HLK : (Instr.lookup 112 (.map (some D.cm)) (.int .i64 id) false).run Tryz.prog w2 = .ok (callV A n e M m d x.k) w2 := (by rw [show x.id = id from DS.find_id HX.out] at hlk; exact hlk);
       have BT := Lib.hid hbt; have OF := Lib.hid hof; have NM : Hid (n ≤ 1000 ∧ m ≤ 1000) := Lib.hid ⟨by rw [← hbt.alen]; exact HXS.out.1.1, by rw [← hbt.mlen]; exact HXS.out.1.2⟩;
       obtain ⟨_, _, _, _, _, c21, _⟩ := dobj_cells H2.out.blk; obtain ⟨g2, hg2⟩ : ∃ g2, w2.heap.size = g2 := ⟨_, rfl⟩; have G2 : Hid (g < g2) := Lib.hid (by rw [← hg2]; exact heap_lt K2.out);
       clear hlk hbt hof)
    | (refine wpList_alloc_agg rfl 135 rfl g2 hg2 (kvals none 0 0 none 0 0 ⟨0, 0, 0, 0⟩) (allocCl _) ?_; intro w3 k3 l3 s3; have K3 := Lib.hid k3; have L3 : Hid (Below w2.heap.size w2 w3) := Lib.hid (by rw [hg2]; exact l3); clear k3 l3 HLK c21)
    | (refine wpList_store_agg rfl 135 _ _ rfl g2 (kvals none 0 0 none 0 0 ⟨0, 0, 0, 0⟩) (kvals A n e M m d x.k) rfl rfl ?hz rfl sizeCL (onesK _ _ _ _ _ _ _) ?_; (case hz => exact K3.out); intro w4 k4 f4 z4;
       have K4 : Hid (w4.heap[g2]? = some (kobj A n e M m d x.k)) := Lib.hid k4; have L4 : Hid (Below w2.heap.size w2 w4) := Lib.hid (L3.out.trans (f4.below L3.out.size (fun j hj e => by have e' : j = g2 := e; omega)));
       have Z4 : Hid (w4.heap.size = g2 + 1) := Lib.hid (z4.trans s3);
       obtain ⟨q0, q1, q2, q3, q4, q5⟩ := kobj_cells' k4; clear k4 f4 z4)
    | (refine wpList_alloc_agg rfl 57 rfl (g2 + 1) Z4.out [.slice none 0 0, .slice none 0 0] (allocRs _) ?_; intro w5 k5 l5 s5; have K5 := Lib.hid k5; have L5 : Hid (Below w2.heap.size w2 w5) := Lib.hid (L4.out.trans (l5.mono (by have := Z4.out; omega))); have KC5 := Lib.hid ((l5.block g2 (by omega)).trans K4.out); have KR5 := Lib.hid (kb_below K2.out L5.out); clear k5 l5 q0 q1 q2 q3 q4 q5)
    | (go_at_call 65; refine (stop_any (g2 + 1) g (.slice none 0 0) [] id w5 (resN_new K5.out (by have := G2.out; omega)) (by decide) (by have := L5.out.size; have := G2.out; omega)).mono ?_; rintro r w6 ⟨rfl, ⟨v6, r6⟩, f6⟩;
       have RF6 : ∀ j, RF (g2 + 1) (.slice none 0 0) j → j = g2 + 1 := fun j hj => (by rcases hj with hj | hj; exact hj; cases hj);
       have R6 := Lib.hid r6; have H6 := Lib.hid ((H2.out.below L5.out).resF (resN_new K5.out (Nat.le_refl _)) f6 (fun j hj => .inr (by rw [RF6 j hj]; have := G2.out; omega)));
       have KC6 := Lib.hid ((f6.block g2 (heap_lt KC5.out) (fun hc => by have := RF6 _ hc; omega)).trans KC5.out); have KR6 := Lib.hid ((f6.block g (heap_lt KR5.out) (fun hc => by have := RF6 _ hc; have := G2.out; omega)).trans KR5.out);
       have F6w : Hid (Frm (fun j => j = g2 + 1) w5 w6) := Lib.hid (f6.mono (fun j _ hj => RF6 j hj));
       have F6 : Hid (Frm D.F w w6) := Lib.hid ((F2.out.then_below L5.out).trans f6 (fun j hj hc => by have := RF6 _ hc; have := G2.out; exfalso; omega));
       have B6 : Hid (Bat w6 A n e M m d x.zs x.ms) := Lib.hid ((BT.out.below L5.out).frm F6w.out (BT.out.off_new OF.out (fun j hj => .inr (by have e' : j = g2 + 1 := hj; omega))));
       obtain ⟨q0, q1, q2, q3, q4, q5⟩ := kobj_cells' KC6.out; clear r6 f6 RF6)
    | (go_at_call 66; refine (count_any D (NU N w) c TS now 1 id w6 H6.out HF.out.fits hnow (by decide)).mono ?_; rintro r w7 ⟨rfl, h7, f7⟩;
       have NCg : ∀ j, g ≤ j → ¬ D.C j := fun j hj hc => (by have := H.out.old (DB.C_F hc); omega);
       have H7 := Lib.hid h7; have KC7 := Lib.hid ((f7.block g2 (heap_lt KC6.out) (NCg _ (by have := G2.out; omega))).trans KC6.out); have KR7 := Lib.hid ((f7.block g (heap_lt KR6.out) (NCg _ (Nat.le_refl _))).trans KR6.out);
       have R7 := Lib.hid (R6.out.frm f7 (fun j hj => by have := H.out.old (DB.C_F hj); omega)); have B7 : Hid (Bat w7 A n e M m d x.zs x.ms) := Lib.hid (B6.out.frm f7 (OF.out.mono (fun j hj => H2.out.inN j (DB.C_F hj))));
       have F7 : Hid (Frm D.F w w7) := Lib.hid (F6.out.trans (f7.mono (F' := D.F) (fun j _ e => DB.C_F e)) (fun _ _ h => h));
       have RFN : Hid (∀ j, RF (g2 + 1) v6 j → NU N w j) := Lib.hid (fun j hj => .inr (by have := (R6.out.old hj).1; omega)); have HC7 : Hid ((TS.count c now id 1).cs = S.cs) := Lib.hid ((DS.count_cs _ _ _ _ _).trans HTC.out);
       clear h7 f7 NCg)
    | (refine wpList_load_agg rfl 135 _ rfl g2 rfl (kvals A n e M m d x.k) ?hz _ HU.out rfl sizeCL ?_; (case hz => exact KC7.out))
    | (go_at_call 70; refine (fall_any D (NU N w) c _ x A n e M m d (g2 + 1) g v6 [⟨false, id, 0⟩] now 1 w7 H7.out B7.out (by rw [HC7.out]; exact Nat.lt_of_succ_lt HF.out.max) R7.out RFN.out NM.out.1 NM.out.2 (fun j hj => by rw [← hg]; exact H.out.old hj) (by show (1 : Nat) ≤ 1000; decide) HF.out.fits HF.out.chain HXS.out.2.1 hnow).mono ?_; rintro r w9 ⟨rfl, h9, ⟨v9, o9, rd9⟩, f9⟩;
       have H9 := Lib.hid h9; have KR9 := Lib.hid ((f9.block g (heap_lt KR7.out) (fun hc => by rcases hc with hc | hc | hc; (have := H.out.old (DB.G_F hc); omega); (have e' : g = g2 + 1 := hc; have := G2.out; omega); exact ty_ne (R7.out.tyA hc) (ty_cells KR7.out) (by decide) rfl)).trans KR7.out);
       have F9 : Hid (Frm D.F w w9) := Lib.hid (F7.out.trans f9 (fun j hj hc => by rcases hc with hc | hc; exact DB.G_F hc; (have := (R7.out.old hc).1; exfalso; omega))); clear h9 f9 q0 q1 q2 q3 q4 q5;
       obtain ⟨A9, n9, e9, P9, q9, p9, rfl, rfl, ra9, ro9, fa9, fo9⟩ := rd9.val; have RD9 := Lib.hid rd9; have RA9 := Lib.hid ra9; have RO9 := Lib.hid ro9; have FA9 := Lib.hid fa9; have FO9 := Lib.hid fo9; clear rd9 ra9 ro9 fa9 fo9)
    | (refine wpList_load_agg rfl 57 _ rfl (g2 + 1) rfl [.slice A9 n9 e9, .slice P9 q9 p9] ?hz _ HUR.out rfl sizeRs ?_; (case hz => exact RD9.out.blk))
    | (refine wpList_store_agg rfl 57 _ _ rfl g [.slice none 0 0, .slice none 0 0] [.slice A9 n9 e9, .slice P9 q9 p9] rfl rfl ?hz rfl sizeRs (onesRs _ _ _ _ _ _) ?_; (case hz => exact KR9.out); intro w10 k10 f10 _; have K10 := Lib.hid k10; have F10 := Lib.hid f10; clear k10 f10))
  refine bodyPost_ret (v := .tuple #[.agg #[.slice A9 n9 e9, .slice P9 q9 p9], .int .i64 0]) (results_agg1 Tryz.results26 rfl (loadRs K10.out) rfl) rfl ?_
  have h10 := H9.out.frm1 F10.out ⟨.inr (by omega), heap_lt KR7.out⟩ (ty_cells KR9.out) (by decide) (by decide) (by decide) (by decide) (by decide) (by decide) (by decide)
  have rv := ResV.cell (e := e9) (f := p9) RA9.out RO9.out FA9.out FO9.out KR9.out F10.out
  refine ⟨⟨.agg #[.slice A9 n9 e9, .slice P9 q9 p9], by rw [HER.out], ?_⟩, ?_, F9.out.trans F10.out (fun j hj e => by have e' : j = g := e; exfalso; omega)⟩
  · rw [HE.out, hg]; exact rv
  · rw [HE.out]; exact h10.grow (fun j hj => .inl ⟨.inl hj.1, Nat.lt_of_lt_of_le hj.2 F7.out.size⟩) (fun j hj => ⟨H.out.inN j hj, H.out.old hj⟩)

set_option maxHeartbeats 8000000 in
theorem answer_len (D : DB) (N : Nat → Prop) (c : Cnf) (S : DS) (now : Nat) (id : Int) (ok : Bool) (B : Option Addr) (q f : Nat) (vs : List Int) (w : World) (h : DepM w D N c S) (hf : S.Fine c) (hid : wf64 id) (hv : RowR irec w B q vs) (hvo : OffR D.F B q) (hnow : now ≤ 18446744073709551615) (hi : id ∈ S.bul.run) (x : CL) (hx : S.find id = some x) (hs : x.k.st = 2) (ho : ok = true) (hq : vs.length ≠ x.zs.length) :
    Calls Tryz.prog 26 #[ptr D.db, .int .u64 now, .int .i64 id, .bool ok, .slice B q f] w (Told17 D N c (S.answer c now id ok vs) w) := by
  obtain ⟨g, hg⟩ : ∃ g, w.heap.size = g := ⟨_, rfl⟩
  obtain ⟨fs, hu⟩ := undCL
  have HU := Lib.hid hu
  obtain ⟨fr, hur⟩ := undRs
  have HUR := Lib.hid hur
  have H := Lib.hid h
  have HF := Lib.hid hf
  have HV := Lib.hid hv
  have HVO := Lib.hid hvo
  have hE : S.answer c now id ok vs = (((S.bulB (S.bul.free id)).count c now id 1).fall c now x 1).after [⟨false, id, 0⟩] := by
    unfold DS.answer; rw [if_pos hi]; dsimp only; rw [hx]; dsimp only; rw [if_pos hs, if_neg (by rw [ho]; simpa using hq)]
  obtain ⟨TS, hTS⟩ : ∃ TS, S.bulB (S.bul.free id) = TS := ⟨_, rfl⟩
  rw [hTS] at hE
  have HTS := Lib.hid hTS.symm
  have HTC : Hid (TS.cs = S.cs) := Lib.hid (by rw [← hTS]; rfl)
  have HIN : Hid (decide (id ∈ S.bul.run) = true) := Lib.hid (decide_eq_true hi)
  clear hTS
  have HX := Lib.hid hx
  have HXS := Lib.hid (hf.small x (cfind_some hx).1)
  have HVC : Hid (OffR (· = D.cm) B q) := Lib.hid (hvo.mono (fun j e => by rw [e]; exact .inr (.inr (.inr (.inr (.inr (.inr rfl)))))))
  have HQ : Hid (∀ n : Nat, x.zs.length = n → ((q : Int) == (n : Int)) = false) := Lib.hid (fun n hn => by rw [← hv.1] at *; simp; omega)
  have e2 : (x.k.st != 2) = false := by simp [hs]
  obtain ⟨R, hR⟩ : ∃ R, S.answer c now id ok vs = R := ⟨_, rfl⟩
  rw [hR] at hE ⊢
  have HE := Lib.hid hE
  have HER : Hid (R.er = 0) := Lib.hid (by first | (rw [hE]; done) | (rw [hE]; rfl) | (rw [hE]; exact DS.fall_er _ _ _ _ _))
  clear hR hE h hf hv hvo hu hur hx hi hs hq
  subst ho
  unfold ptr
  go_enter Tryz.func26, Tryz.ntmps26
  go_wp2_with (first
    | (refine wpList_alloc_agg rfl 57 rfl g hg [.slice none 0 0, .slice none 0 0] (allocRs _) ?_; intro w1 k1 l1 s1; have K1 := Lib.hid k1; have L1 : Hid (Below w.heap.size w w1) := Lib.hid (by rw [hg]; exact l1); clear k1 l1 s1;
       obtain ⟨_, c1, _, _, c20, _, _⟩ := dobj_cells (H.out.below L1.out).blk)
    | (go_at_call 63; refine (free_bul D.ub D.f S.bul id w1 (H.out.below L1.out).bul hid).mono ?_; rintro r w2 ⟨rfl, x2, f2⟩; rw [HIN.out];
       have H2 : Hid (DepM w2 D (NU N w) c TS) := Lib.hid (by rw [HTS.out]; exact (H.out.nu.below L1.out).bul1 f2 x2);
       have K2 := Lib.hid ((f2.block g (heap_lt K1.out) (fun hc => by have := H.out.old (.inr (.inr (.inl hc)) : D.F g); omega)).trans K1.out);
       have F2 : Hid (Frm D.F w w2) := Lib.hid ((Frm.of_below L1.out).trans (f2.mono (F' := D.F) (fun j _ e => .inr (.inr (.inl e)))) (fun _ _ h => h)); clear x2 f2 c1 c20;
       obtain ⟨A, n, e, M, m, d, hlk, hbt, hof⟩ := H2.out.look (x := x) (by rw [show x.id = id from DS.find_id HX.out]; rw [HTS.out]; exact HX.out) (by rw [show x.id = id from DS.find_id HX.out]; exact hid) rfl;
       have HLK : (Instr.lookup 112 (.map (some D.cm)) (.int .i64 id) false).run Tryz.prog w2 = .ok (callV A n e M m d x.k) w2 := (by rw [show x.id = id from DS.find_id HX.out] at hlk; exact hlk);
       have BT := Lib.hid hbt; have OF := Lib.hid hof; have NM : Hid (n ≤ 1000 ∧ m ≤ 1000) := Lib.hid ⟨by rw [← hbt.alen]; exact HXS.out.1.1, by rw [← hbt.mlen]; exact HXS.out.1.2⟩;
       obtain ⟨_, _, _, _, _, c21, _⟩ := dobj_cells H2.out.blk; obtain ⟨g2, hg2⟩ : ∃ g2, w2.heap.size = g2 := ⟨_, rfl⟩; have G2 : Hid (g < g2) := Lib.hid (by rw [← hg2]; exact heap_lt K2.out);
       clear hlk hbt hof)
    | (refine wpList_alloc_agg rfl 135 rfl g2 hg2 (kvals none 0 0 none 0 0 ⟨0, 0, 0, 0⟩) (allocCl _) ?_; intro w3 k3 l3 s3; have K3 := Lib.hid k3; have L3 : Hid (Below w2.heap.size w2 w3) := Lib.hid (by rw [hg2]; exact l3); clear k3 l3 HLK c21)
    | (refine wpList_store_agg rfl 135 _ _ rfl g2 (kvals none 0 0 none 0 0 ⟨0, 0, 0, 0⟩) (kvals A n e M m d x.k) rfl rfl ?hz rfl sizeCL (onesK _ _ _ _ _ _ _) ?_; (case hz => exact K3.out); intro w4 k4 f4 z4;
       have K4 : Hid (w4.heap[g2]? = some (kobj A n e M m d x.k)) := Lib.hid k4; have L4 : Hid (Below w2.heap.size w2 w4) := Lib.hid (L3.out.trans (f4.below L3.out.size (fun j hj e => by have e' : j = g2 := e; omega)));
       have Z4 : Hid (w4.heap.size = g2 + 1) := Lib.hid (z4.trans s3);
       obtain ⟨q0, q1, q2, q3, q4, q5⟩ := kobj_cells' k4; clear k4 f4 z4)
    | (refine wpList_alloc_agg rfl 57 rfl (g2 + 1) Z4.out [.slice none 0 0, .slice none 0 0] (allocRs _) ?_; intro w5 k5 l5 s5; have K5 := Lib.hid k5; have L5 : Hid (Below w2.heap.size w2 w5) := Lib.hid (L4.out.trans (l5.mono (by have := Z4.out; omega))); have KC5 := Lib.hid ((l5.block g2 (by omega)).trans K4.out); have KR5 := Lib.hid (kb_below K2.out L5.out); clear k5 l5 q0 q1 q2 q3 q4 q5)
    | (go_at_call 65; refine (stop_any (g2 + 1) g (.slice none 0 0) [] id w5 (resN_new K5.out (by have := G2.out; omega)) (by decide) (by have := L5.out.size; have := G2.out; omega)).mono ?_; rintro r w6 ⟨rfl, ⟨v6, r6⟩, f6⟩;
       have RF6 : ∀ j, RF (g2 + 1) (.slice none 0 0) j → j = g2 + 1 := fun j hj => (by rcases hj with hj | hj; exact hj; cases hj);
       have R6 := Lib.hid r6; have H6 := Lib.hid ((H2.out.below L5.out).resF (resN_new K5.out (Nat.le_refl _)) f6 (fun j hj => .inr (by rw [RF6 j hj]; have := G2.out; omega)));
       have KC6 := Lib.hid ((f6.block g2 (heap_lt KC5.out) (fun hc => by have := RF6 _ hc; omega)).trans KC5.out); have KR6 := Lib.hid ((f6.block g (heap_lt KR5.out) (fun hc => by have := RF6 _ hc; have := G2.out; omega)).trans KR5.out);
       have F6w : Hid (Frm (fun j => j = g2 + 1) w5 w6) := Lib.hid (f6.mono (fun j _ hj => RF6 j hj));
       have F6 : Hid (Frm D.F w w6) := Lib.hid ((F2.out.then_below L5.out).trans f6 (fun j hj hc => by have := RF6 _ hc; have := G2.out; exfalso; omega));
       have B6 : Hid (Bat w6 A n e M m d x.zs x.ms) := Lib.hid ((BT.out.below L5.out).frm F6w.out (BT.out.off_new OF.out (fun j hj => .inr (by have e' : j = g2 + 1 := hj; omega))));
       obtain ⟨q0, q1, q2, q3, q4, q5⟩ := kobj_cells' KC6.out; have hqn := HQ.out n (by rw [← BT.out.alen]); clear r6 f6 RF6)
    | (go_at_call 66; refine (count_any D (NU N w) c TS now 1 id w6 H6.out HF.out.fits hnow (by decide)).mono ?_; rintro r w7 ⟨rfl, h7, f7⟩;
       have NCg : ∀ j, g ≤ j → ¬ D.C j := fun j hj hc => (by have := H.out.old (DB.C_F hc); omega);
       have H7 := Lib.hid h7; have KC7 := Lib.hid ((f7.block g2 (heap_lt KC6.out) (NCg _ (by have := G2.out; omega))).trans KC6.out); have KR7 := Lib.hid ((f7.block g (heap_lt KR6.out) (NCg _ (Nat.le_refl _))).trans KR6.out);
       have R7 := Lib.hid (R6.out.frm f7 (fun j hj => by have := H.out.old (DB.C_F hj); omega)); have B7 : Hid (Bat w7 A n e M m d x.zs x.ms) := Lib.hid (B6.out.frm f7 (OF.out.mono (fun j hj => H2.out.inN j (DB.C_F hj))));
       have F7 : Hid (Frm D.F w w7) := Lib.hid (F6.out.trans (f7.mono (F' := D.F) (fun j _ e => DB.C_F e)) (fun _ _ h => h));
       have RFN : Hid (∀ j, RF (g2 + 1) v6 j → NU N w j) := Lib.hid (fun j hj => .inr (by have := (R6.out.old hj).1; omega)); have HC7 : Hid ((TS.count c now id 1).cs = S.cs) := Lib.hid ((DS.count_cs _ _ _ _ _).trans HTC.out);
       clear h7 f7 NCg)
    | (refine wpList_load_agg rfl 135 _ rfl g2 rfl (kvals A n e M m d x.k) ?hz _ HU.out rfl sizeCL ?_; (case hz => exact KC7.out))
    | (go_at_call 70; refine (fall_any D (NU N w) c _ x A n e M m d (g2 + 1) g v6 [⟨false, id, 0⟩] now 1 w7 H7.out B7.out (by rw [HC7.out]; exact Nat.lt_of_succ_lt HF.out.max) R7.out RFN.out NM.out.1 NM.out.2 (fun j hj => by rw [← hg]; exact H.out.old hj) (by show (1 : Nat) ≤ 1000; decide) HF.out.fits HF.out.chain HXS.out.2.1 hnow).mono ?_; rintro r w9 ⟨rfl, h9, ⟨v9, o9, rd9⟩, f9⟩;
       have H9 := Lib.hid h9; have KR9 := Lib.hid ((f9.block g (heap_lt KR7.out) (fun hc => by rcases hc with hc | hc | hc; (have := H.out.old (DB.G_F hc); omega); (have e' : g = g2 + 1 := hc; have := G2.out; omega); exact ty_ne (R7.out.tyA hc) (ty_cells KR7.out) (by decide) rfl)).trans KR7.out);
       have F9 : Hid (Frm D.F w w9) := Lib.hid (F7.out.trans f9 (fun j hj hc => by rcases hc with hc | hc; exact DB.G_F hc; (have := (R7.out.old hc).1; exfalso; omega))); clear h9 f9 q0 q1 q2 q3 q4 q5;
       obtain ⟨A9, n9, e9, P9, q9, p9, rfl, rfl, ra9, ro9, fa9, fo9⟩ := rd9.val; have RD9 := Lib.hid rd9; have RA9 := Lib.hid ra9; have RO9 := Lib.hid ro9; have FA9 := Lib.hid fa9; have FO9 := Lib.hid fo9; clear rd9 ra9 ro9 fa9 fo9)
    | (refine wpList_load_agg rfl 57 _ rfl (g2 + 1) rfl [.slice A9 n9 e9, .slice P9 q9 p9] ?hz _ HUR.out rfl sizeRs ?_; (case hz => exact RD9.out.blk))
    | (refine wpList_store_agg rfl 57 _ _ rfl g [.slice none 0 0, .slice none 0 0] [.slice A9 n9 e9, .slice P9 q9 p9] rfl rfl ?hz rfl sizeRs (onesRs _ _ _ _ _ _) ?_; (case hz => exact KR9.out); intro w10 k10 f10 _; have K10 := Lib.hid k10; have F10 := Lib.hid f10; clear k10 f10))
  refine bodyPost_ret (v := .tuple #[.agg #[.slice A9 n9 e9, .slice P9 q9 p9], .int .i64 0]) (results_agg1 Tryz.results26 rfl (loadRs K10.out) rfl) rfl ?_
  have h10 := H9.out.frm1 F10.out ⟨.inr (by omega), heap_lt KR7.out⟩ (ty_cells KR9.out) (by decide) (by decide) (by decide) (by decide) (by decide) (by decide) (by decide)
  have rv := ResV.cell (e := e9) (f := p9) RA9.out RO9.out FA9.out FO9.out KR9.out F10.out
  refine ⟨⟨.agg #[.slice A9 n9 e9, .slice P9 q9 p9], by rw [HER.out], ?_⟩, ?_, F9.out.trans F10.out (fun j hj e => by have e' : j = g := e; exfalso; omega)⟩
  · rw [HE.out, hg]; exact rv
  · rw [HE.out]; exact h10.grow (fun j hj => .inl ⟨.inl hj.1, Nat.lt_of_lt_of_le hj.2 F7.out.size⟩) (fun j hj => ⟨H.out.inN j hj, H.out.old hj⟩)

set_option maxHeartbeats 8000000 in
theorem answer_ok (D : DB) (N : Nat → Prop) (c : Cnf) (S : DS) (now : Nat) (id : Int) (ok : Bool) (B : Option Addr) (q f : Nat) (vs : List Int) (w : World) (h : DepM w D N c S) (hf : S.Fine c) (hid : wf64 id) (hv : RowR irec w B q vs) (hvo : OffR D.F B q) (hnow : now ≤ 18446744073709551615) (hi : id ∈ S.bul.run) (x : CL) (hx : S.find id = some x) (hs : x.k.st = 2) (ho : ok = true) (hq : vs.length = x.zs.length) :
    Calls Tryz.prog 26 #[ptr D.db, .int .u64 now, .int .i64 id, .bool ok, .slice B q f] w (Told17 D N c (S.answer c now id ok vs) w) := by
  obtain ⟨g, hg⟩ : ∃ g, w.heap.size = g := ⟨_, rfl⟩
  obtain ⟨fs, hu⟩ := undCL
  have HU := Lib.hid hu
  obtain ⟨fr, hur⟩ := undRs
  have HUR := Lib.hid hur
  have H := Lib.hid h
  have HF := Lib.hid hf
  have HV := Lib.hid hv
  have HVO := Lib.hid hvo
  have hE : S.answer c now id ok vs = ((((S.bulB (S.bul.free id)).count c now id 0).addH c now (subS now x.k.tm)).ended now x 1 vs).after [⟨false, id, 0⟩] := by
    unfold DS.answer; rw [if_pos hi]; dsimp only; rw [hx]; dsimp only; rw [if_pos hs, if_pos (by rw [ho]; simpa using hq)]
  obtain ⟨TS, hTS⟩ : ∃ TS, S.bulB (S.bul.free id) = TS := ⟨_, rfl⟩
  rw [hTS] at hE
  have HTS := Lib.hid hTS.symm
  have HTC : Hid (TS.cs = S.cs) := Lib.hid (by rw [← hTS]; rfl)
  have HIN : Hid (decide (id ∈ S.bul.run) = true) := Lib.hid (decide_eq_true hi)
  clear hTS
  have HX := Lib.hid hx
  have HXS := Lib.hid (hf.small x (cfind_some hx).1)
  have HVC : Hid (OffR (· = D.cm) B q) := Lib.hid (hvo.mono (fun j e => by rw [e]; exact .inr (.inr (.inr (.inr (.inr (.inr rfl)))))))
  have HQ : Hid (∀ n : Nat, x.zs.length = n → ((q : Int) == (n : Int)) = true) := Lib.hid (fun n hn => by rw [← hv.1] at *; simp; omega)
  have e2 : (x.k.st != 2) = false := by simp [hs]
  have TK0 : Hid (0 ≤ subS now x.k.tm ∧ subS now x.k.tm ≤ 18446744073709551615) := Lib.hid (subS_bd (by omega) HXS.out.2.2.2.1)
  obtain ⟨R, hR⟩ : ∃ R, S.answer c now id ok vs = R := ⟨_, rfl⟩
  rw [hR] at hE ⊢
  have HE := Lib.hid hE
  have HER : Hid (R.er = 0) := Lib.hid (by first | (rw [hE]; done) | (rw [hE]; rfl) | (rw [hE]; exact DS.fall_er _ _ _ _ _))
  clear hR hE h hf hv hvo hu hur hx hi hs hq
  subst ho
  unfold ptr
  go_enter Tryz.func26, Tryz.ntmps26
  go_wp2_with (first
    | (refine wpList_alloc_agg rfl 57 rfl g hg [.slice none 0 0, .slice none 0 0] (allocRs _) ?_; intro w1 k1 l1 s1; have K1 := Lib.hid k1; have L1 : Hid (Below w.heap.size w w1) := Lib.hid (by rw [hg]; exact l1); clear k1 l1 s1;
       obtain ⟨_, c1, _, _, c20, _, _⟩ := dobj_cells (H.out.below L1.out).blk)
    | (go_at_call 63; refine (free_bul D.ub D.f S.bul id w1 (H.out.below L1.out).bul hid).mono ?_; rintro r w2 ⟨rfl, x2, f2⟩; rw [HIN.out];
       have H2 : Hid (DepM w2 D (NU N w) c TS) := Lib.hid (by rw [HTS.out]; exact (H.out.nu.below L1.out).bul1 f2 x2);
       have K2 := Lib.hid ((f2.block g (heap_lt K1.out) (fun hc => by have := H.out.old (.inr (.inr (.inl hc)) : D.F g); omega)).trans K1.out);
       have F2 : Hid (Frm D.F w w2) := Lib.hid ((Frm.of_below L1.out).trans (f2.mono (F' := D.F) (fun j _ e => .inr (.inr (.inl e)))) (fun _ _ h => h)); clear x2 f2 c1 c20;
       obtain ⟨A, n, e, M, m, d, hlk, hbt, hof⟩ := H2.out.look (x := x) (by rw [show x.id = id from DS.find_id HX.out]; rw [HTS.out]; exact HX.out) (by rw [show x.id = id from DS.find_id HX.out]; exact hid) rfl;
       have HLK : (Instr.lookup 112 (.map (some D.cm)) (.int .i64 id) false).run Tryz.prog w2 = .ok (callV A n e M m d x.k) w2 := (by rw [show x.id = id from DS.find_id HX.out] at hlk; exact hlk);
       have BT := Lib.hid hbt; have OF := Lib.hid hof; have NM : Hid (n ≤ 1000 ∧ m ≤ 1000) := Lib.hid ⟨by rw [← hbt.alen]; exact HXS.out.1.1, by rw [← hbt.mlen]; exact HXS.out.1.2⟩;
       obtain ⟨_, _, _, _, _, c21, _⟩ := dobj_cells H2.out.blk; obtain ⟨g2, hg2⟩ : ∃ g2, w2.heap.size = g2 := ⟨_, rfl⟩; have G2 : Hid (g < g2) := Lib.hid (by rw [← hg2]; exact heap_lt K2.out);
       clear hlk hbt hof)
    | (refine wpList_alloc_agg rfl 135 rfl g2 hg2 (kvals none 0 0 none 0 0 ⟨0, 0, 0, 0⟩) (allocCl _) ?_; intro w3 k3 l3 s3; have K3 := Lib.hid k3; have L3 : Hid (Below w2.heap.size w2 w3) := Lib.hid (by rw [hg2]; exact l3); clear k3 l3 HLK c21)
    | (refine wpList_store_agg rfl 135 _ _ rfl g2 (kvals none 0 0 none 0 0 ⟨0, 0, 0, 0⟩) (kvals A n e M m d x.k) rfl rfl ?hz rfl sizeCL (onesK _ _ _ _ _ _ _) ?_; (case hz => exact K3.out); intro w4 k4 f4 z4;
       have K4 : Hid (w4.heap[g2]? = some (kobj A n e M m d x.k)) := Lib.hid k4; have L4 : Hid (Below w2.heap.size w2 w4) := Lib.hid (L3.out.trans (f4.below L3.out.size (fun j hj e => by have e' : j = g2 := e; omega)));
       have Z4 : Hid (w4.heap.size = g2 + 1) := Lib.hid (z4.trans s3);
       obtain ⟨q0, q1, q2, q3, q4, q5⟩ := kobj_cells' k4; clear k4 f4 z4)
    | (refine wpList_alloc_agg rfl 57 rfl (g2 + 1) Z4.out [.slice none 0 0, .slice none 0 0] (allocRs _) ?_; intro w5 k5 l5 s5; have K5 := Lib.hid k5; have L5 : Hid (Below w2.heap.size w2 w5) := Lib.hid (L4.out.trans (l5.mono (by have := Z4.out; omega))); have KC5 := Lib.hid ((l5.block g2 (by omega)).trans K4.out); have KR5 := Lib.hid (kb_below K2.out L5.out); clear k5 l5 q0 q1 q2 q3 q4 q5)
    | (go_at_call 65; refine (stop_any (g2 + 1) g (.slice none 0 0) [] id w5 (resN_new K5.out (by have := G2.out; omega)) (by decide) (by have := L5.out.size; have := G2.out; omega)).mono ?_; rintro r w6 ⟨rfl, ⟨v6, r6⟩, f6⟩;
       have RF6 : ∀ j, RF (g2 + 1) (.slice none 0 0) j → j = g2 + 1 := fun j hj => (by rcases hj with hj | hj; exact hj; cases hj);
       have R6 := Lib.hid r6; have H6 := Lib.hid ((H2.out.below L5.out).resF (resN_new K5.out (Nat.le_refl _)) f6 (fun j hj => .inr (by rw [RF6 j hj]; have := G2.out; omega)));
       have KC6 := Lib.hid ((f6.block g2 (heap_lt KC5.out) (fun hc => by have := RF6 _ hc; omega)).trans KC5.out); have KR6 := Lib.hid ((f6.block g (heap_lt KR5.out) (fun hc => by have := RF6 _ hc; have := G2.out; omega)).trans KR5.out);
       have F6w : Hid (Frm (fun j => j = g2 + 1) w5 w6) := Lib.hid (f6.mono (fun j _ hj => RF6 j hj));
       have F6 : Hid (Frm D.F w w6) := Lib.hid ((F2.out.then_below L5.out).trans f6 (fun j hj hc => by have := RF6 _ hc; have := G2.out; exfalso; omega));
       have B6 : Hid (Bat w6 A n e M m d x.zs x.ms) := Lib.hid ((BT.out.below L5.out).frm F6w.out (BT.out.off_new OF.out (fun j hj => .inr (by have e' : j = g2 + 1 := hj; omega))));
       obtain ⟨q0, q1, q2, q3, q4, q5⟩ := kobj_cells' KC6.out; have hqn := HQ.out n (by rw [← BT.out.alen]); clear r6 f6 RF6)
    | (go_at_call 66; refine (count_any D (NU N w) c TS now 0 id w6 H6.out HF.out.fits hnow (by decide)).mono ?_; rintro r w7 ⟨rfl, h7, f7⟩;
       have NCg : ∀ j, g ≤ j → ¬ D.C j := fun j hj hc => (by have := H.out.old (DB.C_F hc); omega);
       have H7 := Lib.hid h7; have KC7 := Lib.hid ((f7.block g2 (heap_lt KC6.out) (NCg _ (by have := G2.out; omega))).trans KC6.out); have KR7 := Lib.hid ((f7.block g (heap_lt KR6.out) (NCg _ (Nat.le_refl _))).trans KR6.out);
       have R7 := Lib.hid (R6.out.frm f7 (fun j hj => by have := H.out.old (DB.C_F hj); omega)); have B7 : Hid (Bat w7 A n e M m d x.zs x.ms) := Lib.hid (B6.out.frm f7 (OF.out.mono (fun j hj => H2.out.inN j (DB.C_F hj))));
       have F7 : Hid (Frm D.F w w7) := Lib.hid (F6.out.trans (f7.mono (F' := D.F) (fun j _ e => DB.C_F e)) (fun _ _ h => h));
       have RFN : Hid (∀ j, RF (g2 + 1) v6 j → NU N w j) := Lib.hid (fun j hj => .inr (by have := (R6.out.old hj).1; omega)); have HC7 : Hid ((TS.count c now id 0).cs = S.cs) := Lib.hid ((DS.count_cs _ _ _ _ _).trans HTC.out);
       obtain ⟨q0, q1, q2, q3, q4, q5⟩ := kobj_cells' KC7.out; clear h7 f7 NCg))
  obtain ⟨wd, hwd⟩ : ∃ wd, w7.drew = wd := ⟨_, rfl⟩
  have HWD := Lib.hid hwd
  have AL : Ali w7 wd := by rw [← hwd]; exact drew_ali _
  obtain ⟨TC, hTC⟩ : ∃ TC, TS.count c now id 0 = TC := ⟨_, rfl⟩
  rw [hTC] at H7 HE HC7
  have HD := Lib.hid (H7.out.ali AL)
  obtain ⟨_, _, _, c19, _, _, _⟩ := dobj_cells HD.out.blk
  obtain ⟨_, _, _, _, _, d5⟩ := kobj_cells' (kb_below KC7.out (ali_below AL))
  have KCd := Lib.hid (kb_below KC7.out (ali_below AL))
  have KRd := Lib.hid (kb_below KR7.out (ali_below AL))
  have Rd := Lib.hid (R7.out.below (ali_below AL))
  have Bd := Lib.hid (B7.out.below (ali_below AL))
  have Fd : Hid (Frm D.F w wd) := Lib.hid (F7.out.ali AL)
  have hsub := sub_any now x.k.tm wd (by omega) HXS.out.2.2.2.1 (by omega) HXS.out.2.2.2.2
  have hsub' : Calls Tryz.prog 68 #[.int .u64 now, .int .u64 x.k.tm] wd fun e w' => e = .returned (.int .u64 (subS now x.k.tm)) ∧ w' = wd := hsub.mono (fun _ _ ⟨h1, h2⟩ => ⟨h1, h2.symm⟩)
  clear hwd AL hTC hsub q0 q1 q2 q3 q4 q5
  refine region_tail 9 (by kernel_rfl) (by kernel_rfl) ?_
  simp only [List.take_succ_cons, List.take_zero, List.drop_succ_cons, List.drop_zero]
  rw [HWD.out]
  repeat still_step
  still_call (hsub')
  repeat still_step
  refine wpStill_nil ?_
  go_wp2_with (first
    | (go_at_call 67; refine (hadd_his D.hb c.B c.W TC.ht now (lenS (subS now x.k.tm)).toNat (subS now x.k.tm) TC.hF wd HD.out.his hnow TK0.out.1 TK0.out.2 (Int.toNat_of_nonneg (lenS_bd TK0.out.1 TK0.out.2).1).symm).mono ?_; rintro r w8 ⟨rfl, f8, x8⟩;
       have H8 : Hid (DepM w8 D (NU N w) c (TC.addH c now (subS now x.k.tm))) := Lib.hid (HD.out.his1 f8 x8);
       have NH : Hid (D.hb < g) := Lib.hid (by have := H.out.old (.inr (.inr (.inr (.inr (.inl rfl)))) : D.F D.hb); omega);
       have KC8 := Lib.hid ((f8.block g2 (heap_lt KCd.out) (fun e => by have e' : g2 = D.hb := e; have := NH.out; have := G2.out; omega)).trans KCd.out); have KR8 := Lib.hid ((f8.block g (heap_lt KRd.out) (fun e => by have e' : g = D.hb := e; have := NH.out; omega)).trans KRd.out);
       have R8 := Lib.hid (Rd.out.frm f8 (fun j e => by have e' : j = D.hb := e; rw [e']; exact NH.out)); have B8 : Hid (Bat w8 A n e M m d x.zs x.ms) := Lib.hid (Bd.out.frm f8 (OF.out.mono (fun j e => by have e' : j = D.hb := e; rw [e']; exact HD.out.inN _ (.inr (.inr (.inr (.inr (.inl rfl))))))));
       have F8 : Hid (Frm D.F w w8) := Lib.hid (Fd.out.trans (f8.mono (F' := D.F) (fun j _ e => by have e' : j = D.hb := e; rw [e']; exact .inr (.inr (.inr (.inr (.inl rfl)))))) (fun _ _ h => h)); clear x8 f8 c19 d5 hsub')
    | (refine wpList_load_agg rfl 135 _ rfl g2 rfl (kvals A n e M m d x.k) ?hz _ HU.out rfl sizeCL ?_; (case hz => exact KC8.out))
    | (go_at_call 69; refine (end_any D (NU N w) c _ x A n e M m d (g2 + 1) g v6 [⟨false, id, 0⟩] now 1 B q f vs w8 H8.out B8.out OF.out (by show TC.cs.length < maxLen; rw [HC7.out]; exact Nat.lt_of_succ_lt HF.out.max) R8.out (.inr (by have := G2.out; omega)) (HV.out.apart F8.out (fun b off e h0 => HVO.out h0 b off e)) HVC.out NM.out.1 NM.out.2 (fun j hj => by rw [← hg]; exact H.out.old hj)).mono ?_; rintro r w9 ⟨rfl, h9, ⟨o9, rd9⟩, f9⟩;
       have H9 := Lib.hid h9; have KR9 := Lib.hid ((f9.block g (heap_lt KR8.out) (fun hc => by rcases hc with hc | hc; (have := H.out.old hc; omega); (have e' : g = g2 + 1 := hc; have := G2.out; omega))).trans KR8.out);
       have F9 : Hid (Frm D.F w w9) := Lib.hid (F8.out.trans f9 (fun j hj hc => by rcases hc with hc | hc; exact hc; (have e' : j = g2 + 1 := hc; have := G2.out; exfalso; omega))); clear h9 f9;
       obtain ⟨A9, n9, e9, P9, q9, p9, rfl, rfl, ra9, ro9, fa9, fo9⟩ := rd9.val; have RD9 := Lib.hid rd9; have RA9 := Lib.hid ra9; have RO9 := Lib.hid ro9; have FA9 := Lib.hid fa9; have FO9 := Lib.hid fo9; clear rd9 ra9 ro9 fa9 fo9)
    | (refine wpList_load_agg rfl 57 _ rfl (g2 + 1) rfl [.slice A9 n9 e9, .slice P9 q9 p9] ?hz _ HUR.out rfl sizeRs ?_; (case hz => exact RD9.out.blk))
    | (refine wpList_store_agg rfl 57 _ _ rfl g [.slice none 0 0, .slice none 0 0] [.slice A9 n9 e9, .slice P9 q9 p9] rfl rfl ?hz rfl sizeRs (onesRs _ _ _ _ _ _) ?_; (case hz => exact KR9.out); intro w10 k10 f10 _; have K10 := Lib.hid k10; have F10 := Lib.hid f10; clear k10 f10))
  refine bodyPost_ret (v := .tuple #[.agg #[.slice A9 n9 e9, .slice P9 q9 p9], .int .i64 0]) (results_agg1 Tryz.results26 rfl (loadRs K10.out) rfl) rfl ?_
  have h10 := H9.out.frm1 F10.out ⟨.inr (by omega), heap_lt KR8.out⟩ (ty_cells KR9.out) (by decide) (by decide) (by decide) (by decide) (by decide) (by decide) (by decide)
  have rv := ResV.cell (e := e9) (f := p9) RA9.out RO9.out FA9.out FO9.out KR9.out F10.out
  refine ⟨⟨.agg #[.slice A9 n9 e9, .slice P9 q9 p9], by rw [HER.out], ?_⟩, ?_, F9.out.trans F10.out (fun j hj e => by have e' : j = g := e; exfalso; omega)⟩
  · rw [HE.out, hg]; exact rv
  · rw [HE.out]; exact h10.grow (fun j hj => .inl ⟨.inl hj.1, Nat.lt_of_lt_of_le hj.2 F8.out.size⟩) (fun j hj => ⟨H.out.inN j hj, H.out.old hj⟩)

theorem answer_any (D : DB) (N : Nat → Prop) (c : Cnf) (S : DS) (now : Nat) (id : Int) (ok : Bool) (B : Option Addr) (q f : Nat) (vs : List Int) (w : World) (h : DepM w D N c S) (hf : S.Fine c) (hid : wf64 id) (hv : RowR irec w B q vs) (hvo : OffR D.F B q) (hnow : now ≤ 18446744073709551615) :
    Calls Tryz.prog 26 #[ptr D.db, .int .u64 now, .int .i64 id, .bool ok, .slice B q f] w (Told17 D N c (S.answer c now id ok vs) w) := by
  by_cases hi : id ∈ S.bul.run
  · obtain ⟨x, hx⟩ := hf.run id hi
    by_cases hs : x.k.st = 2
    · cases ho : ok with
      | false => exact answer_not D N c S now id false B q f vs w h hf hid hv hvo hnow hi x hx hs rfl
      | true =>
        by_cases hq : vs.length = x.zs.length
        · exact answer_ok D N c S now id true B q f vs w h hf hid hv hvo hnow hi x hx hs rfl hq
        · exact answer_len D N c S now id true B q f vs w h hf hid hv hvo hnow hi x hx hs rfl hq
    · exact answer_keep D N c S now id ok B q f vs w h hf hid hv hvo hnow hi x hx hs
  · exact answer_none D N c S now id ok B q f vs w h hf hid hv hvo hnow hi
end Go.Proofs.YtgnccpmkdgfjeaaGreat

namespace Go.Proofs.YtgnccpmkdgfjeaaGreat
set_option linter.unusedVariables false
set_option maxRecDepth 100000
open Go.ChangeShapes Go.WideShapes Go.ChangeAt Go.RowKit

theorem fallback_nil (now id st : Int) (ok : Bool) (B : Option Addr) (q f : Nat) (w : World) : Calls Tryz.prog 32 #[.pointer none, .int .u64 now, .int .i64 id, .int .i64 st, .bool ok, .slice B q f] w fun r w' => r = .returned (.tuple #[.agg #[.slice none 0 0, .slice none 0 0], .int .i64 1]) ∧ Below w.heap.size w w' := by
  obtain ⟨g, hg⟩ : ∃ g, w.heap.size = g := ⟨_, rfl⟩
  go_enter Tryz.func32, Tryz.ntmps32
  go_wp2_with (first
    | (refine wpList_alloc_agg rfl 57 rfl g hg [.slice none 0 0, .slice none 0 0] (allocRs _) ?_; intro w1 k1 l1 s1; have K1 := Lib.hid k1; have L1 : Hid (Below w.heap.size w w1) := Lib.hid (by rw [hg]; exact l1); clear k1 l1 s1)
    | (refine wpList_build_agg rfl 57 #[] rfl [.slice none 0 0, .slice none 0 0] (buildRs _) ?_)
    | (refine wpList_store_agg rfl 57 _ _ rfl g [.slice none 0 0, .slice none 0 0] [.slice none 0 0, .slice none 0 0] rfl rfl ?hz rfl sizeRs (onesRs _ _ _ _ _ _) ?_; (case hz => exact K1.out); intro w2 k2 f2 _; have K2 := Lib.hid k2; have F2 := Lib.hid f2; clear k2 f2))
  refine bodyPost_ret (v := .tuple #[.agg #[.slice none 0 0, .slice none 0 0], .int .i64 1]) (results_agg1 Tryz.results32 rfl (loadRs K2.out) rfl) rfl ?_
  exact ⟨rfl, L1.out.trans (F2.out.below L1.out.size (fun j hj e => by have e' : j = g := e; omega))⟩

set_option maxHeartbeats 8000000 in
theorem fallback_none (D : DB) (N : Nat → Prop) (c : Cnf) (S : DS) (now : Nat) (id st : Int) (ok : Bool) (B : Option Addr) (q f : Nat) (vs : List Int) (w : World) (h : DepM w D N c S) (hf : S.Fine c) (hid : wf64 id) (hst : wf64 st) (hv : RowR irec w B q vs) (hvo : OffR D.F B q) (hnow : now ≤ 18446744073709551615) (hi : (id, st) ∉ S.fb) :
    Calls Tryz.prog 32 #[ptr D.db, .int .u64 now, .int .i64 id, .int .i64 st, .bool ok, .slice B q f] w (Told17 D N c (S.fallback c now id st ok vs) w) := by
  obtain ⟨g, hg⟩ : ∃ g, w.heap.size = g := ⟨_, rfl⟩
  obtain ⟨fs, hu⟩ := undCL
  have HU := Lib.hid hu
  obtain ⟨fr, hur⟩ := undRs
  have HUR := Lib.hid hur
  have H := Lib.hid h
  have HF := Lib.hid hf
  have HV := Lib.hid hv
  have HVO := Lib.hid hvo
  have hE : S.fallback c now id st ok vs = ⟨S, [], [], 3⟩ := by unfold DS.fallback; rw [if_neg hi]
  have HIN := Lib.hid hi
  obtain ⟨R, hR⟩ : ∃ R, S.fallback c now id st ok vs = R := ⟨_, rfl⟩
  rw [hR] at hE ⊢
  have HE := Lib.hid hE
  have HER : Hid (R.er = 3) := Lib.hid (by first | (rw [hE]; done) | (rw [hE]; rfl) | (rw [hE]; exact DS.fall_er _ _ _ _ _))
  clear hR hE h hf hv hvo hu hur hi
  unfold ptr
  go_enter Tryz.func32, Tryz.ntmps32
  go_wp2_with (first
    | (refine wpList_alloc_agg rfl 57 rfl g hg [.slice none 0 0, .slice none 0 0] (allocRs _) ?_; intro w1 k1 l1 s1; have K1 := Lib.hid k1; have L1 : Hid (Below w.heap.size w w1) := Lib.hid (by rw [hg]; exact l1); clear k1 l1 s1;
       obtain ⟨_, c1, _, _, c20, _, _⟩ := dobj_cells (H.out.below L1.out).blk)
    | (go_at_call 79; refine (free_no D.fb D.fm c.fbMax.toNat S.fb id st w1 (H.out.below L1.out).fal ⟨hid, hst⟩ HIN.out).mono ?_; rintro r w2 ⟨rfl, b2⟩;
       have L2 : Hid (Below w.heap.size w w2) := Lib.hid (L1.out.trans (b2.mono L1.out.size)); have H2 : Hid (DepM w2 D (NU N w) c S) := Lib.hid (H.out.nu.below L2.out);
       have K2 := Lib.hid (kb_below K1.out b2); have F2 : Hid (Frm D.F w w2) := Lib.hid (Frm.of_below L2.out); clear b2 c1 c20)
    | (refine wpList_build_agg rfl 57 #[] rfl [.slice none 0 0, .slice none 0 0] (buildRs _) ?_)
    | (refine wpList_store_agg rfl 57 _ _ rfl g [.slice none 0 0, .slice none 0 0] [.slice none 0 0, .slice none 0 0] rfl rfl ?hz rfl sizeRs (onesRs _ _ _ _ _ _) ?_; (case hz => exact K2.out); intro w3 k3 f3 _; have K3 := Lib.hid k3; have F3 := Lib.hid f3; clear k3 f3))
  refine bodyPost_ret (v := .tuple #[.agg #[.slice none 0 0, .slice none 0 0], .int .i64 3]) (results_agg1 Tryz.results32 rfl (loadRs K3.out) rfl) rfl ?_
  rw [HE.out]
  have h10 : DepM w3 D (NU N w) c _ := H2.out.frm1 F3.out (.inr (by omega)) (ty_cells K2.out) (by decide) (by decide) (by decide) (by decide) (by decide) (by decide) (by decide)
  exact ⟨⟨_, rfl, none, 0, 0, none, 0, 0, rfl, RowR.nil _, RowR.nil _, Fresh.none _, Fresh.none _⟩, h10.nu_nb H.out, F2.out.trans F3.out (fun j hj e => by have e' : j = g := e; exfalso; omega)⟩

set_option maxHeartbeats 8000000 in
theorem fallback_keep (D : DB) (N : Nat → Prop) (c : Cnf) (S : DS) (now : Nat) (id st : Int) (ok : Bool) (B : Option Addr) (q f : Nat) (vs : List Int) (w : World) (h : DepM w D N c S) (hf : S.Fine c) (hid : wf64 id) (hst : wf64 st) (hv : RowR irec w B q vs) (hvo : OffR D.F B q) (hnow : now ≤ 18446744073709551615) (hi : (id, st) ∈ S.fb) (x : CL) (hx : S.find id = some x) (hs : ¬ x.k.st = 3) :
    Calls Tryz.prog 32 #[ptr D.db, .int .u64 now, .int .i64 id, .int .i64 st, .bool ok, .slice B q f] w (Told17 D N c (S.fallback c now id st ok vs) w) := by
  obtain ⟨g, hg⟩ : ∃ g, w.heap.size = g := ⟨_, rfl⟩
  obtain ⟨fs, hu⟩ := undCL
  have HU := Lib.hid hu
  obtain ⟨fr, hur⟩ := undRs
  have HUR := Lib.hid hur
  have H := Lib.hid h
  have HF := Lib.hid hf
  have HV := Lib.hid hv
  have HVO := Lib.hid hvo
  have hE : S.fallback c now id st ok vs = ⟨(S.fbB (outH (id, st) S.fb)).keep x, [], [], 0⟩ := by unfold DS.fallback; rw [if_pos hi]; dsimp only; rw [hx]; dsimp only; rw [if_neg (by exact fun hc => hs hc.1)]
  obtain ⟨TS, hTS⟩ : ∃ TS, S.fbB (outH (id, st) S.fb) = TS := ⟨_, rfl⟩
  rw [hTS] at hE
  have HTS := Lib.hid hTS.symm
  have HTC : Hid (TS.cs = S.cs) := Lib.hid (by rw [← hTS]; rfl)
  have HIN := Lib.hid hi
  clear hTS
  have HX := Lib.hid hx
  have HXS := Lib.hid (hf.small x (cfind_some hx).1)
  have HVC : Hid (OffR (· = D.cm) B q) := Lib.hid (hvo.mono (fun j e => by rw [e]; exact .inr (.inr (.inr (.inr (.inr (.inr rfl)))))))
  have e2 : (x.k.st != 3) = true := by simp [hs]
  obtain ⟨R, hR⟩ : ∃ R, S.fallback c now id st ok vs = R := ⟨_, rfl⟩
  rw [hR] at hE ⊢
  have HE := Lib.hid hE
  have HER : Hid (R.er = 0) := Lib.hid (by first | (rw [hE]; done) | (rw [hE]; rfl) | (rw [hE]; exact DS.fall_er _ _ _ _ _))
  clear hR hE h hf hv hvo hu hur hx hi hs
  unfold ptr
  go_enter Tryz.func32, Tryz.ntmps32
  go_wp2_with (first
    | (refine wpList_alloc_agg rfl 57 rfl g hg [.slice none 0 0, .slice none 0 0] (allocRs _) ?_; intro w1 k1 l1 s1; have K1 := Lib.hid k1; have L1 : Hid (Below w.heap.size w w1) := Lib.hid (by rw [hg]; exact l1); clear k1 l1 s1;
       obtain ⟨_, c1, _, _, c20, _, _⟩ := dobj_cells (H.out.below L1.out).blk)
    | (go_at_call 79; refine (free_yes D.fb D.fm c.fbMax.toNat S.fb id st w1 (H.out.below L1.out).fal ⟨hid, hst⟩ HIN.out).mono ?_; rintro r w2 ⟨rfl, f2, x2⟩;
       have H2 : Hid (DepM w2 D (NU N w) c TS) := Lib.hid (by rw [HTS.out]; exact (H.out.nu.below L1.out).fal1 f2 x2);
       have K2 := Lib.hid ((f2.block g (heap_lt K1.out) (fun hc => by have := H.out.old (.inr (.inr (.inr (.inr (.inr (.inl hc))))) : D.F g); omega)).trans K1.out);
       have F2 : Hid (Frm D.F w w2) := Lib.hid ((Frm.of_below L1.out).trans (f2.mono (F' := D.F) (fun j _ e => .inr (.inr (.inr (.inr (.inr (.inl e))))))) (fun _ _ h => h)); clear x2 f2 c1 c20;
       obtain ⟨A, n, e, M, m, d, hlk, hbt, hof⟩ := H2.out.look (x := x) (by rw [show x.id = id from DS.find_id HX.out]; rw [HTS.out]; exact HX.out) (by rw [show x.id = id from DS.find_id HX.out]; exact hid) rfl;
       have HLK : (Instr.lookup 112 (.map (some D.cm)) (.int .i64 id) false).run Tryz.prog w2 = .ok (callV A n e M m d x.k) w2 := (by rw [show x.id = id from DS.find_id HX.out] at hlk; exact hlk);
       have BT := Lib.hid hbt; have OF := Lib.hid hof; have NM : Hid (n ≤ 1000 ∧ m ≤ 1000) := Lib.hid ⟨by rw [← hbt.alen]; exact HXS.out.1.1, by rw [← hbt.mlen]; exact HXS.out.1.2⟩;
       obtain ⟨_, _, _, _, _, c21, _⟩ := dobj_cells H2.out.blk; obtain ⟨g2, hg2⟩ : ∃ g2, w2.heap.size = g2 := ⟨_, rfl⟩; have G2 : Hid (g < g2) := Lib.hid (by rw [← hg2]; exact heap_lt K2.out);
       clear hlk hbt hof)
    | (refine wpList_alloc_agg rfl 135 rfl g2 hg2 (kvals none 0 0 none 0 0 ⟨0, 0, 0, 0⟩) (allocCl _) ?_; intro w3 k3 l3 s3; have K3 := Lib.hid k3; have L3 : Hid (Below w2.heap.size w2 w3) := Lib.hid (by rw [hg2]; exact l3); clear k3 l3 HLK c21)
    | (refine wpList_store_agg rfl 135 _ _ rfl g2 (kvals none 0 0 none 0 0 ⟨0, 0, 0, 0⟩) (kvals A n e M m d x.k) rfl rfl ?hz rfl sizeCL (onesK _ _ _ _ _ _ _) ?_; (case hz => exact K3.out); intro w4 k4 f4 z4;
       have K4 : Hid (w4.heap[g2]? = some (kobj A n e M m d x.k)) := Lib.hid k4; have L4 : Hid (Below w2.heap.size w2 w4) := Lib.hid (L3.out.trans (f4.below L3.out.size (fun j hj e => by have e' : j = g2 := e; omega)));
       have Z4 : Hid (w4.heap.size = g2 + 1) := Lib.hid (z4.trans s3);
       obtain ⟨q0, q1, q2, q3, q4, q5⟩ := kobj_cells' k4; clear k4 f4 z4)
    | (refine wpList_load_agg rfl 135 _ rfl g2 rfl (kvals A n e M m d x.k) ?hz _ HU.out rfl sizeCL ?_; (case hz => exact K4.out))
    | (go_at_call 64; refine (keep_any D (NU N w) c TS x A n e M m d w4 (H2.out.below L4.out) (BT.out.below L4.out) OF.out (by rw [HTC.out]; exact Nat.lt_of_succ_lt HF.out.max)).mono ?_; rintro r w5 ⟨rfl, h5, f5⟩;
       have NCM : Hid (D.cm < g) := Lib.hid (by have := H.out.old (.inr (.inr (.inr (.inr (.inr (.inr rfl))))) : D.F D.cm); omega);
       have H5 := Lib.hid h5; have K5 := Lib.hid ((f5.block g (heap_lt (kb_below K2.out L4.out)) (fun e => by have e' : g = D.cm := e; have := NCM.out; omega)).trans (kb_below K2.out L4.out));
       have F5 : Hid (Frm D.F w w5) := Lib.hid ((F2.out.then_below L4.out).trans (f5.mono (F' := D.F) (fun j _ e => .inr (.inr (.inr (.inr (.inr (.inr e))))))) (fun _ _ h => h)); clear h5 f5 q0 q1 q2 q3 q4 q5)
    | (refine wpList_build_agg rfl 57 #[] rfl [.slice none 0 0, .slice none 0 0] (buildRs _) ?_)
    | (refine wpList_store_agg rfl 57 _ _ rfl g [.slice none 0 0, .slice none 0 0] [.slice none 0 0, .slice none 0 0] rfl rfl ?hz rfl sizeRs (onesRs _ _ _ _ _ _) ?_; (case hz => exact K5.out); intro w6 k6 f6 _; have K6 := Lib.hid k6; have F6 := Lib.hid f6; clear k6 f6))
  refine bodyPost_ret (v := .tuple #[.agg #[.slice none 0 0, .slice none 0 0], .int .i64 0]) (results_agg1 Tryz.results32 rfl (loadRs K6.out) rfl) rfl ?_
  rw [HE.out]
  have h10 : DepM w6 D (NU N w) c _ := H5.out.frm1 F6.out (.inr (by omega)) (ty_cells K5.out) (by decide) (by decide) (by decide) (by decide) (by decide) (by decide) (by decide)
  exact ⟨⟨_, rfl, none, 0, 0, none, 0, 0, rfl, RowR.nil _, RowR.nil _, Fresh.none _, Fresh.none _⟩, h10.nu_nb H.out, F5.out.trans F6.out (fun j hj e => by have e' : j = g := e; exfalso; omega)⟩

set_option maxHeartbeats 8000000 in
theorem fallback_step (D : DB) (N : Nat → Prop) (c : Cnf) (S : DS) (now : Nat) (id st : Int) (ok : Bool) (B : Option Addr) (q f : Nat) (vs : List Int) (w : World) (h : DepM w D N c S) (hf : S.Fine c) (hid : wf64 id) (hst : wf64 st) (hv : RowR irec w B q vs) (hvo : OffR D.F B q) (hnow : now ≤ 18446744073709551615) (hi : (id, st) ∈ S.fb) (x : CL) (hx : S.find id = some x) (hs : x.k.st = 3) (hs2 : ¬ x.k.sp = st) :
    Calls Tryz.prog 32 #[ptr D.db, .int .u64 now, .int .i64 id, .int .i64 st, .bool ok, .slice B q f] w (Told17 D N c (S.fallback c now id st ok vs) w) := by
  obtain ⟨g, hg⟩ : ∃ g, w.heap.size = g := ⟨_, rfl⟩
  obtain ⟨fs, hu⟩ := undCL
  have HU := Lib.hid hu
  obtain ⟨fr, hur⟩ := undRs
  have HUR := Lib.hid hur
  have H := Lib.hid h
  have HF := Lib.hid hf
  have HV := Lib.hid hv
  have HVO := Lib.hid hvo
  have hE : S.fallback c now id st ok vs = ⟨(S.fbB (outH (id, st) S.fb)).keep x, [], [], 0⟩ := by unfold DS.fallback; rw [if_pos hi]; dsimp only; rw [hx]; dsimp only; rw [if_neg (by exact fun hc => hs2 hc.2)]
  obtain ⟨TS, hTS⟩ : ∃ TS, S.fbB (outH (id, st) S.fb) = TS := ⟨_, rfl⟩
  rw [hTS] at hE
  have HTS := Lib.hid hTS.symm
  have HTC : Hid (TS.cs = S.cs) := Lib.hid (by rw [← hTS]; rfl)
  have HIN := Lib.hid hi
  clear hTS
  have HX := Lib.hid hx
  have HXS := Lib.hid (hf.small x (cfind_some hx).1)
  have HVC : Hid (OffR (· = D.cm) B q) := Lib.hid (hvo.mono (fun j e => by rw [e]; exact .inr (.inr (.inr (.inr (.inr (.inr rfl)))))))
  have e2 : (x.k.st != 3) = false := by simp [hs]
  have e3 : (x.k.sp != st) = true := by simp [hs2]
  obtain ⟨R, hR⟩ : ∃ R, S.fallback c now id st ok vs = R := ⟨_, rfl⟩
  rw [hR] at hE ⊢
  have HE := Lib.hid hE
  have HER : Hid (R.er = 0) := Lib.hid (by first | (rw [hE]; done) | (rw [hE]; rfl) | (rw [hE]; exact DS.fall_er _ _ _ _ _))
  clear hR hE h hf hv hvo hu hur hx hi hs hs2
  unfold ptr
  go_enter Tryz.func32, Tryz.ntmps32
  go_wp2_with (first
    | (refine wpList_alloc_agg rfl 57 rfl g hg [.slice none 0 0, .slice none 0 0] (allocRs _) ?_; intro w1 k1 l1 s1; have K1 := Lib.hid k1; have L1 : Hid (Below w.heap.size w w1) := Lib.hid (by rw [hg]; exact l1); clear k1 l1 s1;
       obtain ⟨_, c1, _, _, c20, _, _⟩ := dobj_cells (H.out.below L1.out).blk)
    | (go_at_call 79; refine (free_yes D.fb D.fm c.fbMax.toNat S.fb id st w1 (H.out.below L1.out).fal ⟨hid, hst⟩ HIN.out).mono ?_; rintro r w2 ⟨rfl, f2, x2⟩;
       have H2 : Hid (DepM w2 D (NU N w) c TS) := Lib.hid (by rw [HTS.out]; exact (H.out.nu.below L1.out).fal1 f2 x2);
       have K2 := Lib.hid ((f2.block g (heap_lt K1.out) (fun hc => by have := H.out.old (.inr (.inr (.inr (.inr (.inr (.inl hc))))) : D.F g); omega)).trans K1.out);
       have F2 : Hid (Frm D.F w w2) := Lib.hid ((Frm.of_below L1.out).trans (f2.mono (F' := D.F) (fun j _ e => .inr (.inr (.inr (.inr (.inr (.inl e))))))) (fun _ _ h => h)); clear x2 f2 c1 c20;
       obtain ⟨A, n, e, M, m, d, hlk, hbt, hof⟩ := H2.out.look (x := x) (by rw [show x.id = id from DS.find_id HX.out]; rw [HTS.out]; exact HX.out) (by rw [show x.id = id from DS.find_id HX.out]; exact hid) rfl;
       have HLK : (Instr.lookup 112 (.map (some D.cm)) (.int .i64 id) false).run Tryz.prog w2 = .ok (callV A n e M m d x.k) w2 := (by rw [show x.id = id from DS.find_id HX.out] at hlk; exact hlk);
       have BT := Lib.hid hbt; have OF := Lib.hid hof; have NM : Hid (n ≤ 1000 ∧ m ≤ 1000) := Lib.hid ⟨by rw [← hbt.alen]; exact HXS.out.1.1, by rw [← hbt.mlen]; exact HXS.out.1.2⟩;
       obtain ⟨_, _, _, _, _, c21, _⟩ := dobj_cells H2.out.blk; obtain ⟨g2, hg2⟩ : ∃ g2, w2.heap.size = g2 := ⟨_, rfl⟩; have G2 : Hid (g < g2) := Lib.hid (by rw [← hg2]; exact heap_lt K2.out);
       clear hlk hbt hof)
    | (refine wpList_alloc_agg rfl 135 rfl g2 hg2 (kvals none 0 0 none 0 0 ⟨0, 0, 0, 0⟩) (allocCl _) ?_; intro w3 k3 l3 s3; have K3 := Lib.hid k3; have L3 : Hid (Below w2.heap.size w2 w3) := Lib.hid (by rw [hg2]; exact l3); clear k3 l3 HLK c21)
    | (refine wpList_store_agg rfl 135 _ _ rfl g2 (kvals none 0 0 none 0 0 ⟨0, 0, 0, 0⟩) (kvals A n e M m d x.k) rfl rfl ?hz rfl sizeCL (onesK _ _ _ _ _ _ _) ?_; (case hz => exact K3.out); intro w4 k4 f4 z4;
       have K4 : Hid (w4.heap[g2]? = some (kobj A n e M m d x.k)) := Lib.hid k4; have L4 : Hid (Below w2.heap.size w2 w4) := Lib.hid (L3.out.trans (f4.below L3.out.size (fun j hj e => by have e' : j = g2 := e; omega)));
       have Z4 : Hid (w4.heap.size = g2 + 1) := Lib.hid (z4.trans s3);
       obtain ⟨q0, q1, q2, q3, q4, q5⟩ := kobj_cells' k4; clear k4 f4 z4)
    | (refine wpList_load_agg rfl 135 _ rfl g2 rfl (kvals A n e M m d x.k) ?hz _ HU.out rfl sizeCL ?_; (case hz => exact K4.out))
    | (go_at_call 64; refine (keep_any D (NU N w) c TS x A n e M m d w4 (H2.out.below L4.out) (BT.out.below L4.out) OF.out (by rw [HTC.out]; exact Nat.lt_of_succ_lt HF.out.max)).mono ?_; rintro r w5 ⟨rfl, h5, f5⟩;
       have NCM : Hid (D.cm < g) := Lib.hid (by have := H.out.old (.inr (.inr (.inr (.inr (.inr (.inr rfl))))) : D.F D.cm); omega);
       have H5 := Lib.hid h5; have K5 := Lib.hid ((f5.block g (heap_lt (kb_below K2.out L4.out)) (fun e => by have e' : g = D.cm := e; have := NCM.out; omega)).trans (kb_below K2.out L4.out));
       have F5 : Hid (Frm D.F w w5) := Lib.hid ((F2.out.then_below L4.out).trans (f5.mono (F' := D.F) (fun j _ e => .inr (.inr (.inr (.inr (.inr (.inr e))))))) (fun _ _ h => h)); clear h5 f5 q0 q1 q2 q3 q4 q5)
    | (refine wpList_build_agg rfl 57 #[] rfl [.slice none 0 0, .slice none 0 0] (buildRs _) ?_)
    | (refine wpList_store_agg rfl 57 _ _ rfl g [.slice none 0 0, .slice none 0 0] [.slice none 0 0, .slice none 0 0] rfl rfl ?hz rfl sizeRs (onesRs _ _ _ _ _ _) ?_; (case hz => exact K5.out); intro w6 k6 f6 _; have K6 := Lib.hid k6; have F6 := Lib.hid f6; clear k6 f6))
  refine bodyPost_ret (v := .tuple #[.agg #[.slice none 0 0, .slice none 0 0], .int .i64 0]) (results_agg1 Tryz.results32 rfl (loadRs K6.out) rfl) rfl ?_
  rw [HE.out]
  have h10 : DepM w6 D (NU N w) c _ := H5.out.frm1 F6.out (.inr (by omega)) (ty_cells K5.out) (by decide) (by decide) (by decide) (by decide) (by decide) (by decide) (by decide)
  exact ⟨⟨_, rfl, none, 0, 0, none, 0, 0, rfl, RowR.nil _, RowR.nil _, Fresh.none _, Fresh.none _⟩, h10.nu_nb H.out, F5.out.trans F6.out (fun j hj e => by have e' : j = g := e; exfalso; omega)⟩

set_option maxHeartbeats 8000000 in
theorem fallback_not (D : DB) (N : Nat → Prop) (c : Cnf) (S : DS) (now : Nat) (id st : Int) (ok : Bool) (B : Option Addr) (q f : Nat) (vs : List Int) (w : World) (h : DepM w D N c S) (hf : S.Fine c) (hid : wf64 id) (hst : wf64 st) (hv : RowR irec w B q vs) (hvo : OffR D.F B q) (hnow : now ≤ 18446744073709551615) (hi : (id, st) ∈ S.fb) (x : CL) (hx : S.find id = some x) (hs : x.k.st = 3) (hs2 : x.k.sp = st) (ho : ok = false) :
    Calls Tryz.prog 32 #[ptr D.db, .int .u64 now, .int .i64 id, .int .i64 st, .bool ok, .slice B q f] w (Told17 D N c (S.fallback c now id st ok vs) w) := by
  obtain ⟨g, hg⟩ : ∃ g, w.heap.size = g := ⟨_, rfl⟩
  obtain ⟨fs, hu⟩ := undCL
  have HU := Lib.hid hu
  obtain ⟨fr, hur⟩ := undRs
  have HUR := Lib.hid hur
  have H := Lib.hid h
  have HF := Lib.hid hf
  have HV := Lib.hid hv
  have HVO := Lib.hid hvo
  have hE : S.fallback c now id st ok vs = ((S.fbB (outH (id, st) S.fb)).fall c now x x.k.ca).after [⟨false, id, 0⟩] := by
    unfold DS.fallback; rw [if_pos hi]; dsimp only; rw [hx]; dsimp only; rw [if_pos ⟨hs, hs2⟩, if_neg (by rw [ho]; simp)]
  obtain ⟨TS, hTS⟩ : ∃ TS, S.fbB (outH (id, st) S.fb) = TS := ⟨_, rfl⟩
  rw [hTS] at hE
  have HTS := Lib.hid hTS.symm
  have HTC : Hid (TS.cs = S.cs) := Lib.hid (by rw [← hTS]; rfl)
  have HIN := Lib.hid hi
  clear hTS
  have HX := Lib.hid hx
  have HXS := Lib.hid (hf.small x (cfind_some hx).1)
  have HVC : Hid (OffR (· = D.cm) B q) := Lib.hid (hvo.mono (fun j e => by rw [e]; exact .inr (.inr (.inr (.inr (.inr (.inr rfl)))))))
  have e2 : (x.k.st != 3) = false := by simp [hs]
  have e3 : (x.k.sp != st) = false := by simp [hs2]
  obtain ⟨R, hR⟩ : ∃ R, S.fallback c now id st ok vs = R := ⟨_, rfl⟩
  rw [hR] at hE ⊢
  have HE := Lib.hid hE
  have HER : Hid (R.er = 0) := Lib.hid (by first | (rw [hE]; done) | (rw [hE]; rfl) | (rw [hE]; exact DS.fall_er _ _ _ _ _))
  clear hR hE h hf hv hvo hu hur hx hi hs hs2
  subst ho
  unfold ptr
  go_enter Tryz.func32, Tryz.ntmps32
  go_wp2_with (first
    | (refine wpList_alloc_agg rfl 57 rfl g hg [.slice none 0 0, .slice none 0 0] (allocRs _) ?_; intro w1 k1 l1 s1; have K1 := Lib.hid k1; have L1 : Hid (Below w.heap.size w w1) := Lib.hid (by rw [hg]; exact l1); clear k1 l1 s1;
       obtain ⟨_, c1, _, _, c20, _, _⟩ := dobj_cells (H.out.below L1.out).blk)
    | (go_at_call 79; refine (free_yes D.fb D.fm c.fbMax.toNat S.fb id st w1 (H.out.below L1.out).fal ⟨hid, hst⟩ HIN.out).mono ?_; rintro r w2 ⟨rfl, f2, x2⟩;
       have H2 : Hid (DepM w2 D (NU N w) c TS) := Lib.hid (by rw [HTS.out]; exact (H.out.nu.below L1.out).fal1 f2 x2);
       have K2 := Lib.hid ((f2.block g (heap_lt K1.out) (fun hc => by have := H.out.old (.inr (.inr (.inr (.inr (.inr (.inl hc))))) : D.F g); omega)).trans K1.out);
       have F2 : Hid (Frm D.F w w2) := Lib.hid ((Frm.of_below L1.out).trans (f2.mono (F' := D.F) (fun j _ e => .inr (.inr (.inr (.inr (.inr (.inl e))))))) (fun _ _ h => h)); clear x2 f2 c1 c20;
       obtain ⟨A, n, e, M, m, d, hlk, hbt, hof⟩ := H2.out.look (x := x) (by rw [show x.id = id from DS.find_id HX.out]; rw [HTS.out]; exact HX.out) (by rw [show x.id = id from DS.find_id HX.out]; exact hid) rfl;
       have HLK : (Instr.lookup 112 (.map (some D.cm)) (.int .i64 id) false).run Tryz.prog w2 = .ok (callV A n e M m d x.k) w2 := (by rw [show x.id = id from DS.find_id HX.out] at hlk; exact hlk);
       have BT := Lib.hid hbt; have OF := Lib.hid hof; have NM : Hid (n ≤ 1000 ∧ m ≤ 1000) := Lib.hid ⟨by rw [← hbt.alen]; exact HXS.out.1.1, by rw [← hbt.mlen]; exact HXS.out.1.2⟩;
       obtain ⟨_, _, _, _, _, c21, _⟩ := dobj_cells H2.out.blk; obtain ⟨g2, hg2⟩ : ∃ g2, w2.heap.size = g2 := ⟨_, rfl⟩; have G2 : Hid (g < g2) := Lib.hid (by rw [← hg2]; exact heap_lt K2.out);
       clear hlk hbt hof)
    | (refine wpList_alloc_agg rfl 135 rfl g2 hg2 (kvals none 0 0 none 0 0 ⟨0, 0, 0, 0⟩) (allocCl _) ?_; intro w3 k3 l3 s3; have K3 := Lib.hid k3; have L3 : Hid (Below w2.heap.size w2 w3) := Lib.hid (by rw [hg2]; exact l3); clear k3 l3 HLK c21)
    | (refine wpList_store_agg rfl 135 _ _ rfl g2 (kvals none 0 0 none 0 0 ⟨0, 0, 0, 0⟩) (kvals A n e M m d x.k) rfl rfl ?hz rfl sizeCL (onesK _ _ _ _ _ _ _) ?_; (case hz => exact K3.out); intro w4 k4 f4 z4;
       have K4 : Hid (w4.heap[g2]? = some (kobj A n e M m d x.k)) := Lib.hid k4; have L4 : Hid (Below w2.heap.size w2 w4) := Lib.hid (L3.out.trans (f4.below L3.out.size (fun j hj e => by have e' : j = g2 := e; omega)));
       have Z4 : Hid (w4.heap.size = g2 + 1) := Lib.hid (z4.trans s3);
       obtain ⟨q0, q1, q2, q3, q4, q5⟩ := kobj_cells' k4; clear k4 f4 z4)
    | (refine wpList_alloc_agg rfl 57 rfl (g2 + 1) Z4.out [.slice none 0 0, .slice none 0 0] (allocRs _) ?_; intro w5 k5 l5 s5; have K5 := Lib.hid k5; have L5 : Hid (Below w2.heap.size w2 w5) := Lib.hid (L4.out.trans (l5.mono (by have := Z4.out; omega))); have KC5 := Lib.hid ((l5.block g2 (by omega)).trans K4.out); have KR5 := Lib.hid (kb_below K2.out L5.out); clear k5 l5 q0 q1 q2 q3 q4 q5)
    | (go_at_call 65; refine (stop_any (g2 + 1) g (.slice none 0 0) [] id w5 (resN_new K5.out (by have := G2.out; omega)) (by decide) (by have := L5.out.size; have := G2.out; omega)).mono ?_; rintro r w6 ⟨rfl, ⟨v6, r6⟩, f6⟩;
       have RF6 : ∀ j, RF (g2 + 1) (.slice none 0 0) j → j = g2 + 1 := fun j hj => (by rcases hj with hj | hj; exact hj; cases hj);
       have R6 := Lib.hid r6; have H6 := Lib.hid ((H2.out.below L5.out).resF (resN_new K5.out (Nat.le_refl _)) f6 (fun j hj => .inr (by rw [RF6 j hj]; have := G2.out; omega)));
       have KC6 := Lib.hid ((f6.block g2 (heap_lt KC5.out) (fun hc => by have := RF6 _ hc; omega)).trans KC5.out); have KR6 := Lib.hid ((f6.block g (heap_lt KR5.out) (fun hc => by have := RF6 _ hc; have := G2.out; omega)).trans KR5.out);
       have F6w : Hid (Frm (fun j => j = g2 + 1) w5 w6) := Lib.hid (f6.mono (fun j _ hj => RF6 j hj));
       have F6 : Hid (Frm D.F w w6) := Lib.hid ((F2.out.then_below L5.out).trans f6 (fun j hj hc => by have := RF6 _ hc; have := G2.out; exfalso; omega));
       have B6 : Hid (Bat w6 A n e M m d x.zs x.ms) := Lib.hid ((BT.out.below L5.out).frm F6w.out (BT.out.off_new OF.out (fun j hj => .inr (by have e' : j = g2 + 1 := hj; omega))));
       obtain ⟨q0, q1, q2, q3, q4, q5⟩ := kobj_cells' KC6.out; have RFN : Hid (∀ j, RF (g2 + 1) v6 j → NU N w j) := Lib.hid (fun j hj => .inr (by have := (r6.old hj).1; omega)); clear r6 f6 RF6)
    | (refine wpList_load_agg rfl 135 _ rfl g2 rfl (kvals A n e M m d x.k) ?hz _ HU.out rfl sizeCL ?_; (case hz => exact KC6.out))
    | (go_at_call 70; refine (fall_any D (NU N w) c TS x A n e M m d (g2 + 1) g v6 [⟨false, id, 0⟩] now x.k.ca w6 H6.out B6.out (by rw [HTC.out]; exact Nat.lt_of_succ_lt HF.out.max) R6.out RFN.out NM.out.1 NM.out.2 (fun j hj => by rw [← hg]; exact H.out.old hj) (by show (1 : Nat) ≤ 1000; decide) HF.out.fits HF.out.chain HXS.out.2.1 hnow).mono ?_; rintro r w9 ⟨rfl, h9, ⟨v9, o9, rd9⟩, f9⟩;
       have H9 := Lib.hid h9; have KR9 := Lib.hid ((f9.block g (heap_lt KR6.out) (fun hc => by rcases hc with hc | hc | hc; (have := H.out.old (DB.G_F hc); omega); (have e' : g = g2 + 1 := hc; have := G2.out; omega); exact ty_ne (R6.out.tyA hc) (ty_cells KR6.out) (by decide) rfl)).trans KR6.out);
       have F9 : Hid (Frm D.F w w9) := Lib.hid (F6.out.trans f9 (fun j hj hc => by rcases hc with hc | hc; exact DB.G_F hc; (have := (R6.out.old hc).1; exfalso; omega))); clear h9 f9 q0 q1 q2 q3 q4 q5;
       obtain ⟨A9, n9, e9, P9, q9, p9, rfl, rfl, ra9, ro9, fa9, fo9⟩ := rd9.val; have RD9 := Lib.hid rd9; have RA9 := Lib.hid ra9; have RO9 := Lib.hid ro9; have FA9 := Lib.hid fa9; have FO9 := Lib.hid fo9; clear rd9 ra9 ro9 fa9 fo9)
    | (refine wpList_load_agg rfl 57 _ rfl (g2 + 1) rfl [.slice A9 n9 e9, .slice P9 q9 p9] ?hz _ HUR.out rfl sizeRs ?_; (case hz => exact RD9.out.blk))
    | (refine wpList_store_agg rfl 57 _ _ rfl g [.slice none 0 0, .slice none 0 0] [.slice A9 n9 e9, .slice P9 q9 p9] rfl rfl ?hz rfl sizeRs (onesRs _ _ _ _ _ _) ?_; (case hz => exact KR9.out); intro w10 k10 f10 _; have K10 := Lib.hid k10; have F10 := Lib.hid f10; clear k10 f10))
  refine bodyPost_ret (v := .tuple #[.agg #[.slice A9 n9 e9, .slice P9 q9 p9], .int .i64 0]) (results_agg1 Tryz.results32 rfl (loadRs K10.out) rfl) rfl ?_
  have h10 := H9.out.frm1 F10.out ⟨.inr (by omega), heap_lt KR6.out⟩ (ty_cells KR9.out) (by decide) (by decide) (by decide) (by decide) (by decide) (by decide) (by decide)
  have rv := ResV.cell (e := e9) (f := p9) RA9.out RO9.out FA9.out FO9.out KR9.out F10.out
  refine ⟨⟨.agg #[.slice A9 n9 e9, .slice P9 q9 p9], by rw [HER.out], ?_⟩, ?_, F9.out.trans F10.out (fun j hj e => by have e' : j = g := e; exfalso; omega)⟩
  · rw [HE.out, hg]; exact rv
  · rw [HE.out]; exact h10.grow (fun j hj => .inl ⟨.inl hj.1, Nat.lt_of_lt_of_le hj.2 F6.out.size⟩) (fun j hj => ⟨H.out.inN j hj, H.out.old hj⟩)

set_option maxHeartbeats 8000000 in
theorem fallback_len (D : DB) (N : Nat → Prop) (c : Cnf) (S : DS) (now : Nat) (id st : Int) (ok : Bool) (B : Option Addr) (q f : Nat) (vs : List Int) (w : World) (h : DepM w D N c S) (hf : S.Fine c) (hid : wf64 id) (hst : wf64 st) (hv : RowR irec w B q vs) (hvo : OffR D.F B q) (hnow : now ≤ 18446744073709551615) (hi : (id, st) ∈ S.fb) (x : CL) (hx : S.find id = some x) (hs : x.k.st = 3) (hs2 : x.k.sp = st) (ho : ok = true) (hq : vs.length ≠ x.zs.length) :
    Calls Tryz.prog 32 #[ptr D.db, .int .u64 now, .int .i64 id, .int .i64 st, .bool ok, .slice B q f] w (Told17 D N c (S.fallback c now id st ok vs) w) := by
  obtain ⟨g, hg⟩ : ∃ g, w.heap.size = g := ⟨_, rfl⟩
  obtain ⟨fs, hu⟩ := undCL
  have HU := Lib.hid hu
  obtain ⟨fr, hur⟩ := undRs
  have HUR := Lib.hid hur
  have H := Lib.hid h
  have HF := Lib.hid hf
  have HV := Lib.hid hv
  have HVO := Lib.hid hvo
  have hE : S.fallback c now id st ok vs = ((S.fbB (outH (id, st) S.fb)).fall c now x x.k.ca).after [⟨false, id, 0⟩] := by
    unfold DS.fallback; rw [if_pos hi]; dsimp only; rw [hx]; dsimp only; rw [if_pos ⟨hs, hs2⟩, if_neg (by rw [ho]; simpa using hq)]
  obtain ⟨TS, hTS⟩ : ∃ TS, S.fbB (outH (id, st) S.fb) = TS := ⟨_, rfl⟩
  rw [hTS] at hE
  have HTS := Lib.hid hTS.symm
  have HTC : Hid (TS.cs = S.cs) := Lib.hid (by rw [← hTS]; rfl)
  have HIN := Lib.hid hi
  clear hTS
  have HX := Lib.hid hx
  have HXS := Lib.hid (hf.small x (cfind_some hx).1)
  have HVC : Hid (OffR (· = D.cm) B q) := Lib.hid (hvo.mono (fun j e => by rw [e]; exact .inr (.inr (.inr (.inr (.inr (.inr rfl)))))))
  have HQ : Hid (∀ n : Nat, x.zs.length = n → ((q : Int) == (n : Int)) = false) := Lib.hid (fun n hn => by rw [← hv.1] at *; simp; omega)
  have e2 : (x.k.st != 3) = false := by simp [hs]
  have e3 : (x.k.sp != st) = false := by simp [hs2]
  obtain ⟨R, hR⟩ : ∃ R, S.fallback c now id st ok vs = R := ⟨_, rfl⟩
  rw [hR] at hE ⊢
  have HE := Lib.hid hE
  have HER : Hid (R.er = 0) := Lib.hid (by first | (rw [hE]; done) | (rw [hE]; rfl) | (rw [hE]; exact DS.fall_er _ _ _ _ _))
  clear hR hE h hf hv hvo hu hur hx hi hs hs2 hq
  subst ho
  unfold ptr
  go_enter Tryz.func32, Tryz.ntmps32
  go_wp2_with (first
    | (refine wpList_alloc_agg rfl 57 rfl g hg [.slice none 0 0, .slice none 0 0] (allocRs _) ?_; intro w1 k1 l1 s1; have K1 := Lib.hid k1; have L1 : Hid (Below w.heap.size w w1) := Lib.hid (by rw [hg]; exact l1); clear k1 l1 s1;
       obtain ⟨_, c1, _, _, c20, _, _⟩ := dobj_cells (H.out.below L1.out).blk)
    | (go_at_call 79; refine (free_yes D.fb D.fm c.fbMax.toNat S.fb id st w1 (H.out.below L1.out).fal ⟨hid, hst⟩ HIN.out).mono ?_; rintro r w2 ⟨rfl, f2, x2⟩;
       have H2 : Hid (DepM w2 D (NU N w) c TS) := Lib.hid (by rw [HTS.out]; exact (H.out.nu.below L1.out).fal1 f2 x2);
       have K2 := Lib.hid ((f2.block g (heap_lt K1.out) (fun hc => by have := H.out.old (.inr (.inr (.inr (.inr (.inr (.inl hc))))) : D.F g); omega)).trans K1.out);
       have F2 : Hid (Frm D.F w w2) := Lib.hid ((Frm.of_below L1.out).trans (f2.mono (F' := D.F) (fun j _ e => .inr (.inr (.inr (.inr (.inr (.inl e))))))) (fun _ _ h => h)); clear x2 f2 c1 c20;
       obtain ⟨A, n, e, M, m, d, hlk, hbt, hof⟩ := H2.out.look (x := x) (by rw [show x.id = id from DS.find_id HX.out]; rw [HTS.out]; exact HX.out) (by rw [show x.id = id from DS.find_id HX.out]; exact hid) rfl;
       have HLK : (Instr.lookup 112 (.map (some D.cm)) (.int .i64 id) false).run Tryz.prog w2 = .ok (callV A n e M m d x.k) w2 := (by rw [show x.id = id from DS.find_id HX.out] at hlk; exact hlk);
       have BT := Lib.hid hbt; have OF := Lib.hid hof; have NM : Hid (n ≤ 1000 ∧ m ≤ 1000) := Lib.hid ⟨by rw [← hbt.alen]; exact HXS.out.1.1, by rw [← hbt.mlen]; exact HXS.out.1.2⟩;
       obtain ⟨_, _, _, _, _, c21, _⟩ := dobj_cells H2.out.blk; obtain ⟨g2, hg2⟩ : ∃ g2, w2.heap.size = g2 := ⟨_, rfl⟩; have G2 : Hid (g < g2) := Lib.hid (by rw [← hg2]; exact heap_lt K2.out);
       clear hlk hbt hof)
    | (refine wpList_alloc_agg rfl 135 rfl g2 hg2 (kvals none 0 0 none 0 0 ⟨0, 0, 0, 0⟩) (allocCl _) ?_; intro w3 k3 l3 s3; have K3 := Lib.hid k3; have L3 : Hid (Below w2.heap.size w2 w3) := Lib.hid (by rw [hg2]; exact l3); clear k3 l3 HLK c21)
    | (refine wpList_store_agg rfl 135 _ _ rfl g2 (kvals none 0 0 none 0 0 ⟨0, 0, 0, 0⟩) (kvals A n e M m d x.k) rfl rfl ?hz rfl sizeCL (onesK _ _ _ _ _ _ _) ?_; (case hz => exact K3.out); intro w4 k4 f4 z4;
       have K4 : Hid (w4.heap[g2]? = some (kobj A n e M m d x.k)) := Lib.hid k4; have L4 : Hid (Below w2.heap.size w2 w4) := Lib.hid (L3.out.trans (f4.below L3.out.size (fun j hj e => by have e' : j = g2 := e; omega)));
       have Z4 : Hid (w4.heap.size = g2 + 1) := Lib.hid (z4.trans s3);
       obtain ⟨q0, q1, q2, q3, q4, q5⟩ := kobj_cells' k4; clear k4 f4 z4)
    | (refine wpList_alloc_agg rfl 57 rfl (g2 + 1) Z4.out [.slice none 0 0, .slice none 0 0] (allocRs _) ?_; intro w5 k5 l5 s5; have K5 := Lib.hid k5; have L5 : Hid (Below w2.heap.size w2 w5) := Lib.hid (L4.out.trans (l5.mono (by have := Z4.out; omega))); have KC5 := Lib.hid ((l5.block g2 (by omega)).trans K4.out); have KR5 := Lib.hid (kb_below K2.out L5.out); clear k5 l5 q0 q1 q2 q3 q4 q5)
    | (go_at_call 65; refine (stop_any (g2 + 1) g (.slice none 0 0) [] id w5 (resN_new K5.out (by have := G2.out; omega)) (by decide) (by have := L5.out.size; have := G2.out; omega)).mono ?_; rintro r w6 ⟨rfl, ⟨v6, r6⟩, f6⟩;
       have RF6 : ∀ j, RF (g2 + 1) (.slice none 0 0) j → j = g2 + 1 := fun j hj => (by rcases hj with hj | hj; exact hj; cases hj);
       have R6 := Lib.hid r6; have H6 := Lib.hid ((H2.out.below L5.out).resF (resN_new K5.out (Nat.le_refl _)) f6 (fun j hj => .inr (by rw [RF6 j hj]; have := G2.out; omega)));
       have KC6 := Lib.hid ((f6.block g2 (heap_lt KC5.out) (fun hc => by have := RF6 _ hc; omega)).trans KC5.out); have KR6 := Lib.hid ((f6.block g (heap_lt KR5.out) (fun hc => by have := RF6 _ hc; have := G2.out; omega)).trans KR5.out);
       have F6w : Hid (Frm (fun j => j = g2 + 1) w5 w6) := Lib.hid (f6.mono (fun j _ hj => RF6 j hj));
       have F6 : Hid (Frm D.F w w6) := Lib.hid ((F2.out.then_below L5.out).trans f6 (fun j hj hc => by have := RF6 _ hc; have := G2.out; exfalso; omega));
       have B6 : Hid (Bat w6 A n e M m d x.zs x.ms) := Lib.hid ((BT.out.below L5.out).frm F6w.out (BT.out.off_new OF.out (fun j hj => .inr (by have e' : j = g2 + 1 := hj; omega))));
       obtain ⟨q0, q1, q2, q3, q4, q5⟩ := kobj_cells' KC6.out; have hqn := HQ.out n (by rw [← BT.out.alen]); have RFN : Hid (∀ j, RF (g2 + 1) v6 j → NU N w j) := Lib.hid (fun j hj => .inr (by have := (r6.old hj).1; omega)); clear r6 f6 RF6)
    | (refine wpList_load_agg rfl 135 _ rfl g2 rfl (kvals A n e M m d x.k) ?hz _ HU.out rfl sizeCL ?_; (case hz => exact KC6.out))
    | (go_at_call 70; refine (fall_any D (NU N w) c TS x A n e M m d (g2 + 1) g v6 [⟨false, id, 0⟩] now x.k.ca w6 H6.out B6.out (by rw [HTC.out]; exact Nat.lt_of_succ_lt HF.out.max) R6.out RFN.out NM.out.1 NM.out.2 (fun j hj => by rw [← hg]; exact H.out.old hj) (by show (1 : Nat) ≤ 1000; decide) HF.out.fits HF.out.chain HXS.out.2.1 hnow).mono ?_; rintro r w9 ⟨rfl, h9, ⟨v9, o9, rd9⟩, f9⟩;
       have H9 := Lib.hid h9; have KR9 := Lib.hid ((f9.block g (heap_lt KR6.out) (fun hc => by rcases hc with hc | hc | hc; (have := H.out.old (DB.G_F hc); omega); (have e' : g = g2 + 1 := hc; have := G2.out; omega); exact ty_ne (R6.out.tyA hc) (ty_cells KR6.out) (by decide) rfl)).trans KR6.out);
       have F9 : Hid (Frm D.F w w9) := Lib.hid (F6.out.trans f9 (fun j hj hc => by rcases hc with hc | hc; exact DB.G_F hc; (have := (R6.out.old hc).1; exfalso; omega))); clear h9 f9 q0 q1 q2 q3 q4 q5;
       obtain ⟨A9, n9, e9, P9, q9, p9, rfl, rfl, ra9, ro9, fa9, fo9⟩ := rd9.val; have RD9 := Lib.hid rd9; have RA9 := Lib.hid ra9; have RO9 := Lib.hid ro9; have FA9 := Lib.hid fa9; have FO9 := Lib.hid fo9; clear rd9 ra9 ro9 fa9 fo9)
    | (refine wpList_load_agg rfl 57 _ rfl (g2 + 1) rfl [.slice A9 n9 e9, .slice P9 q9 p9] ?hz _ HUR.out rfl sizeRs ?_; (case hz => exact RD9.out.blk))
    | (refine wpList_store_agg rfl 57 _ _ rfl g [.slice none 0 0, .slice none 0 0] [.slice A9 n9 e9, .slice P9 q9 p9] rfl rfl ?hz rfl sizeRs (onesRs _ _ _ _ _ _) ?_; (case hz => exact KR9.out); intro w10 k10 f10 _; have K10 := Lib.hid k10; have F10 := Lib.hid f10; clear k10 f10))
  refine bodyPost_ret (v := .tuple #[.agg #[.slice A9 n9 e9, .slice P9 q9 p9], .int .i64 0]) (results_agg1 Tryz.results32 rfl (loadRs K10.out) rfl) rfl ?_
  have h10 := H9.out.frm1 F10.out ⟨.inr (by omega), heap_lt KR6.out⟩ (ty_cells KR9.out) (by decide) (by decide) (by decide) (by decide) (by decide) (by decide) (by decide)
  have rv := ResV.cell (e := e9) (f := p9) RA9.out RO9.out FA9.out FO9.out KR9.out F10.out
  refine ⟨⟨.agg #[.slice A9 n9 e9, .slice P9 q9 p9], by rw [HER.out], ?_⟩, ?_, F9.out.trans F10.out (fun j hj e => by have e' : j = g := e; exfalso; omega)⟩
  · rw [HE.out, hg]; exact rv
  · rw [HE.out]; exact h10.grow (fun j hj => .inl ⟨.inl hj.1, Nat.lt_of_lt_of_le hj.2 F6.out.size⟩) (fun j hj => ⟨H.out.inN j hj, H.out.old hj⟩)

set_option maxHeartbeats 8000000 in
theorem fallback_ok (D : DB) (N : Nat → Prop) (c : Cnf) (S : DS) (now : Nat) (id st : Int) (ok : Bool) (B : Option Addr) (q f : Nat) (vs : List Int) (w : World) (h : DepM w D N c S) (hf : S.Fine c) (hid : wf64 id) (hst : wf64 st) (hv : RowR irec w B q vs) (hvo : OffR D.F B q) (hnow : now ≤ 18446744073709551615) (hi : (id, st) ∈ S.fb) (x : CL) (hx : S.find id = some x) (hs : x.k.st = 3) (hs2 : x.k.sp = st) (ho : ok = true) (hq : vs.length = x.zs.length) :
    Calls Tryz.prog 32 #[ptr D.db, .int .u64 now, .int .i64 id, .int .i64 st, .bool ok, .slice B q f] w (Told17 D N c (S.fallback c now id st ok vs) w) := by
  obtain ⟨g, hg⟩ : ∃ g, w.heap.size = g := ⟨_, rfl⟩
  obtain ⟨fs, hu⟩ := undCL
  have HU := Lib.hid hu
  obtain ⟨fr, hur⟩ := undRs
  have HUR := Lib.hid hur
  have H := Lib.hid h
  have HF := Lib.hid hf
  have HV := Lib.hid hv
  have HVO := Lib.hid hvo
  have hE : S.fallback c now id st ok vs = ((S.fbB (outH (id, st) S.fb)).ended now x 3 vs).after [⟨false, id, 0⟩] := by
    unfold DS.fallback; rw [if_pos hi]; dsimp only; rw [hx]; dsimp only; rw [if_pos ⟨hs, hs2⟩, if_pos (by rw [ho]; simpa using hq)]
  obtain ⟨TS, hTS⟩ : ∃ TS, S.fbB (outH (id, st) S.fb) = TS := ⟨_, rfl⟩
  rw [hTS] at hE
  have HTS := Lib.hid hTS.symm
  have HTC : Hid (TS.cs = S.cs) := Lib.hid (by rw [← hTS]; rfl)
  have HIN := Lib.hid hi
  clear hTS
  have HX := Lib.hid hx
  have HXS := Lib.hid (hf.small x (cfind_some hx).1)
  have HVC : Hid (OffR (· = D.cm) B q) := Lib.hid (hvo.mono (fun j e => by rw [e]; exact .inr (.inr (.inr (.inr (.inr (.inr rfl)))))))
  have HQ : Hid (∀ n : Nat, x.zs.length = n → ((q : Int) == (n : Int)) = true) := Lib.hid (fun n hn => by rw [← hv.1] at *; simp; omega)
  have e2 : (x.k.st != 3) = false := by simp [hs]
  have e3 : (x.k.sp != st) = false := by simp [hs2]
  obtain ⟨R, hR⟩ : ∃ R, S.fallback c now id st ok vs = R := ⟨_, rfl⟩
  rw [hR] at hE ⊢
  have HE := Lib.hid hE
  have HER : Hid (R.er = 0) := Lib.hid (by first | (rw [hE]; done) | (rw [hE]; rfl) | (rw [hE]; exact DS.fall_er _ _ _ _ _))
  clear hR hE h hf hv hvo hu hur hx hi hs hs2 hq
  subst ho
  unfold ptr
  go_enter Tryz.func32, Tryz.ntmps32
  go_wp2_with (first
    | (refine wpList_alloc_agg rfl 57 rfl g hg [.slice none 0 0, .slice none 0 0] (allocRs _) ?_; intro w1 k1 l1 s1; have K1 := Lib.hid k1; have L1 : Hid (Below w.heap.size w w1) := Lib.hid (by rw [hg]; exact l1); clear k1 l1 s1;
       obtain ⟨_, c1, _, _, c20, _, _⟩ := dobj_cells (H.out.below L1.out).blk)
    | (go_at_call 79; refine (free_yes D.fb D.fm c.fbMax.toNat S.fb id st w1 (H.out.below L1.out).fal ⟨hid, hst⟩ HIN.out).mono ?_; rintro r w2 ⟨rfl, f2, x2⟩;
       have H2 : Hid (DepM w2 D (NU N w) c TS) := Lib.hid (by rw [HTS.out]; exact (H.out.nu.below L1.out).fal1 f2 x2);
       have K2 := Lib.hid ((f2.block g (heap_lt K1.out) (fun hc => by have := H.out.old (.inr (.inr (.inr (.inr (.inr (.inl hc))))) : D.F g); omega)).trans K1.out);
       have F2 : Hid (Frm D.F w w2) := Lib.hid ((Frm.of_below L1.out).trans (f2.mono (F' := D.F) (fun j _ e => .inr (.inr (.inr (.inr (.inr (.inl e))))))) (fun _ _ h => h)); clear x2 f2 c1 c20;
       obtain ⟨A, n, e, M, m, d, hlk, hbt, hof⟩ := H2.out.look (x := x) (by rw [show x.id = id from DS.find_id HX.out]; rw [HTS.out]; exact HX.out) (by rw [show x.id = id from DS.find_id HX.out]; exact hid) rfl;
       have HLK : (Instr.lookup 112 (.map (some D.cm)) (.int .i64 id) false).run Tryz.prog w2 = .ok (callV A n e M m d x.k) w2 := (by rw [show x.id = id from DS.find_id HX.out] at hlk; exact hlk);
       have BT := Lib.hid hbt; have OF := Lib.hid hof; have NM : Hid (n ≤ 1000 ∧ m ≤ 1000) := Lib.hid ⟨by rw [← hbt.alen]; exact HXS.out.1.1, by rw [← hbt.mlen]; exact HXS.out.1.2⟩;
       obtain ⟨_, _, _, _, _, c21, _⟩ := dobj_cells H2.out.blk; obtain ⟨g2, hg2⟩ : ∃ g2, w2.heap.size = g2 := ⟨_, rfl⟩; have G2 : Hid (g < g2) := Lib.hid (by rw [← hg2]; exact heap_lt K2.out);
       clear hlk hbt hof)
    | (refine wpList_alloc_agg rfl 135 rfl g2 hg2 (kvals none 0 0 none 0 0 ⟨0, 0, 0, 0⟩) (allocCl _) ?_; intro w3 k3 l3 s3; have K3 := Lib.hid k3; have L3 : Hid (Below w2.heap.size w2 w3) := Lib.hid (by rw [hg2]; exact l3); clear k3 l3 HLK c21)
    | (refine wpList_store_agg rfl 135 _ _ rfl g2 (kvals none 0 0 none 0 0 ⟨0, 0, 0, 0⟩) (kvals A n e M m d x.k) rfl rfl ?hz rfl sizeCL (onesK _ _ _ _ _ _ _) ?_; (case hz => exact K3.out); intro w4 k4 f4 z4;
       have K4 : Hid (w4.heap[g2]? = some (kobj A n e M m d x.k)) := Lib.hid k4; have L4 : Hid (Below w2.heap.size w2 w4) := Lib.hid (L3.out.trans (f4.below L3.out.size (fun j hj e => by have e' : j = g2 := e; omega)));
       have Z4 : Hid (w4.heap.size = g2 + 1) := Lib.hid (z4.trans s3);
       obtain ⟨q0, q1, q2, q3, q4, q5⟩ := kobj_cells' k4; clear k4 f4 z4)
    | (refine wpList_alloc_agg rfl 57 rfl (g2 + 1) Z4.out [.slice none 0 0, .slice none 0 0] (allocRs _) ?_; intro w5 k5 l5 s5; have K5 := Lib.hid k5; have L5 : Hid (Below w2.heap.size w2 w5) := Lib.hid (L4.out.trans (l5.mono (by have := Z4.out; omega))); have KC5 := Lib.hid ((l5.block g2 (by omega)).trans K4.out); have KR5 := Lib.hid (kb_below K2.out L5.out); clear k5 l5 q0 q1 q2 q3 q4 q5)
    | (go_at_call 65; refine (stop_any (g2 + 1) g (.slice none 0 0) [] id w5 (resN_new K5.out (by have := G2.out; omega)) (by decide) (by have := L5.out.size; have := G2.out; omega)).mono ?_; rintro r w6 ⟨rfl, ⟨v6, r6⟩, f6⟩;
       have RF6 : ∀ j, RF (g2 + 1) (.slice none 0 0) j → j = g2 + 1 := fun j hj => (by rcases hj with hj | hj; exact hj; cases hj);
       have R6 := Lib.hid r6; have H6 := Lib.hid ((H2.out.below L5.out).resF (resN_new K5.out (Nat.le_refl _)) f6 (fun j hj => .inr (by rw [RF6 j hj]; have := G2.out; omega)));
       have KC6 := Lib.hid ((f6.block g2 (heap_lt KC5.out) (fun hc => by have := RF6 _ hc; omega)).trans KC5.out); have KR6 := Lib.hid ((f6.block g (heap_lt KR5.out) (fun hc => by have := RF6 _ hc; have := G2.out; omega)).trans KR5.out);
       have F6w : Hid (Frm (fun j => j = g2 + 1) w5 w6) := Lib.hid (f6.mono (fun j _ hj => RF6 j hj));
       have F6 : Hid (Frm D.F w w6) := Lib.hid ((F2.out.then_below L5.out).trans f6 (fun j hj hc => by have := RF6 _ hc; have := G2.out; exfalso; omega));
       have B6 : Hid (Bat w6 A n e M m d x.zs x.ms) := Lib.hid ((BT.out.below L5.out).frm F6w.out (BT.out.off_new OF.out (fun j hj => .inr (by have e' : j = g2 + 1 := hj; omega))));
       obtain ⟨q0, q1, q2, q3, q4, q5⟩ := kobj_cells' KC6.out; have hqn := HQ.out n (by rw [← BT.out.alen]); have RFN : Hid (∀ j, RF (g2 + 1) v6 j → NU N w j) := Lib.hid (fun j hj => .inr (by have := (r6.old hj).1; omega)); clear r6 f6 RF6)
    | (refine wpList_load_agg rfl 135 _ rfl g2 rfl (kvals A n e M m d x.k) ?hz _ HU.out rfl sizeCL ?_; (case hz => exact KC6.out))
    | (go_at_call 69; refine (end_any D (NU N w) c TS x A n e M m d (g2 + 1) g v6 [⟨false, id, 0⟩] now 3 B q f vs w6 H6.out B6.out OF.out (by rw [HTC.out]; exact Nat.lt_of_succ_lt HF.out.max) R6.out (.inr (by have := G2.out; omega)) (HV.out.apart F6.out (fun b off e h0 => HVO.out h0 b off e)) HVC.out NM.out.1 NM.out.2 (fun j hj => by rw [← hg]; exact H.out.old hj)).mono ?_; rintro r w9 ⟨rfl, h9, ⟨o9, rd9⟩, f9⟩;
       have H9 := Lib.hid h9; have KR9 := Lib.hid ((f9.block g (heap_lt KR6.out) (fun hc => by rcases hc with hc | hc; (have := H.out.old hc; omega); (have e' : g = g2 + 1 := hc; have := G2.out; omega))).trans KR6.out);
       have F9 : Hid (Frm D.F w w9) := Lib.hid (F6.out.trans f9 (fun j hj hc => by rcases hc with hc | hc; exact hc; (have e' : j = g2 + 1 := hc; have := G2.out; exfalso; omega))); clear h9 f9 q0 q1 q2 q3 q4 q5;
       obtain ⟨A9, n9, e9, P9, q9, p9, rfl, rfl, ra9, ro9, fa9, fo9⟩ := rd9.val; have RD9 := Lib.hid rd9; have RA9 := Lib.hid ra9; have RO9 := Lib.hid ro9; have FA9 := Lib.hid fa9; have FO9 := Lib.hid fo9; clear rd9 ra9 ro9 fa9 fo9)
    | (refine wpList_load_agg rfl 57 _ rfl (g2 + 1) rfl [.slice A9 n9 e9, .slice P9 q9 p9] ?hz _ HUR.out rfl sizeRs ?_; (case hz => exact RD9.out.blk))
    | (refine wpList_store_agg rfl 57 _ _ rfl g [.slice none 0 0, .slice none 0 0] [.slice A9 n9 e9, .slice P9 q9 p9] rfl rfl ?hz rfl sizeRs (onesRs _ _ _ _ _ _) ?_; (case hz => exact KR9.out); intro w10 k10 f10 _; have K10 := Lib.hid k10; have F10 := Lib.hid f10; clear k10 f10))
  refine bodyPost_ret (v := .tuple #[.agg #[.slice A9 n9 e9, .slice P9 q9 p9], .int .i64 0]) (results_agg1 Tryz.results32 rfl (loadRs K10.out) rfl) rfl ?_
  have h10 := H9.out.frm1 F10.out ⟨.inr (by omega), heap_lt KR6.out⟩ (ty_cells KR9.out) (by decide) (by decide) (by decide) (by decide) (by decide) (by decide) (by decide)
  have rv := ResV.cell (e := e9) (f := p9) RA9.out RO9.out FA9.out FO9.out KR9.out F10.out
  refine ⟨⟨.agg #[.slice A9 n9 e9, .slice P9 q9 p9], by rw [HER.out], ?_⟩, ?_, F9.out.trans F10.out (fun j hj e => by have e' : j = g := e; exfalso; omega)⟩
  · rw [HE.out, hg]; exact rv
  · rw [HE.out]; exact h10.grow (fun j hj => .inl ⟨.inl hj.1, Nat.lt_of_lt_of_le hj.2 F6.out.size⟩) (fun j hj => ⟨H.out.inN j hj, H.out.old hj⟩)

theorem fallback_any (D : DB) (N : Nat → Prop) (c : Cnf) (S : DS) (now : Nat) (id st : Int) (ok : Bool) (B : Option Addr) (q f : Nat) (vs : List Int) (w : World) (h : DepM w D N c S) (hf : S.Fine c) (hid : wf64 id) (hst : wf64 st) (hv : RowR irec w B q vs) (hvo : OffR D.F B q) (hnow : now ≤ 18446744073709551615) :
    Calls Tryz.prog 32 #[ptr D.db, .int .u64 now, .int .i64 id, .int .i64 st, .bool ok, .slice B q f] w (Told17 D N c (S.fallback c now id st ok vs) w) := by
  by_cases hi : (id, st) ∈ S.fb
  · obtain ⟨x, hx⟩ := hf.fbk _ hi
    by_cases hs : x.k.st = 3
    · by_cases hs2 : x.k.sp = st
      · cases ho : ok with
        | false => exact fallback_not D N c S now id st false B q f vs w h hf hid hst hv hvo hnow hi x hx hs hs2 rfl
        | true =>
          by_cases hq : vs.length = x.zs.length
          · exact fallback_ok D N c S now id st true B q f vs w h hf hid hst hv hvo hnow hi x hx hs hs2 rfl hq
          · exact fallback_len D N c S now id st true B q f vs w h hf hid hst hv hvo hnow hi x hx hs hs2 rfl hq
      · exact fallback_step D N c S now id st ok B q f vs w h hf hid hst hv hvo hnow hi x hx hs hs2
    · exact fallback_keep D N c S now id st ok B q f vs w h hf hid hst hv hvo hnow hi x hx hs
  · exact fallback_none D N c S now id st ok B q f vs w h hf hid hst hv hvo hnow hi
end Go.Proofs.YtgnccpmkdgfjeaaGreat

namespace Go.Proofs.YtgnccpmkdgfjeaaGreat
set_option linter.unusedVariables false
set_option maxRecDepth 100000
open Go.ChangeShapes Go.WideShapes Go.ChangeAt Go.RowKit

/-- What is told of a timer that came. -/
def Told17L (D : DB) (N : Nat → Prop) (c : Cnf) (R : DR) (w : World) (r : Ending) (w' : World) : Prop :=
  (∃ rv, r = .returned rv ∧ ResV w' w.heap.size rv R.acts R.outs) ∧ DepM w' D (NB N w) c R.S ∧ Frm D.F w w'

set_option maxHeartbeats 2000000 in
theorem late_nil (now id : Int) (w : World) : Calls Tryz.prog 33 #[.pointer none, .int .u64 now, .int .i64 id] w fun r w' => r = .returned (.agg #[.slice none 0 0, .slice none 0 0]) ∧ Below w.heap.size w w' := by
  obtain ⟨g, hg⟩ : ∃ g, w.heap.size = g := ⟨_, rfl⟩
  obtain ⟨fr, hur⟩ := undRs
  have HUR := Lib.hid hur
  clear hur
  go_enter Tryz.func33, Tryz.ntmps33
  go_wp2_with (first
    | (refine wpList_alloc_agg rfl 57 rfl g hg [.slice none 0 0, .slice none 0 0] (allocRs _) ?_; intro w1 k1 l1 s1; have K1 := Lib.hid k1; have L1 : Hid (Below w.heap.size w w1) := Lib.hid (by rw [hg]; exact l1); clear k1 l1)
    | (refine wpList_alloc_agg rfl 57 rfl (g + 1) s1 [.slice none 0 0, .slice none 0 0] (allocRs _) ?_; intro w2 k2 l2 s2; have KR2 := Lib.hid k2; have K2 := Lib.hid ((l2.block g (by omega)).trans K1.out); have L2 : Hid (Below w.heap.size w w2) := Lib.hid (L1.out.trans (l2.mono (by omega))); clear k2 l2 s1 s2)
    | (go_at_call 20; refine (knows_nil id w2).mono ?_; rintro r w3 ⟨rfl, hz⟩; rw [← hz]; clear hz w3)
    | (refine wpList_load_agg rfl 57 _ rfl (g + 1) rfl [.slice none 0 0, .slice none 0 0] ?hz _ HUR.out rfl sizeRs ?_; (case hz => exact KR2.out))
    | (refine wpList_store_agg rfl 57 _ _ rfl g [.slice none 0 0, .slice none 0 0] [.slice none 0 0, .slice none 0 0] rfl rfl ?hz rfl sizeRs (onesRs _ _ _ _ _ _) ?_; (case hz => exact K2.out); intro w10 k10 f10 _; have K10 := Lib.hid k10; have F10 := Lib.hid f10; clear k10 f10))
  refine bodyPost_ret (v := .agg #[.slice none 0 0, .slice none 0 0]) (results_agg Tryz.results33 rfl (loadRs K10.out)) rfl ?_
  exact ⟨rfl, L2.out.trans (F10.out.below L2.out.size (fun j hj e => by have e' : j = g := e; omega))⟩

set_option maxHeartbeats 8000000 in
theorem late_none (D : DB) (N : Nat → Prop) (c : Cnf) (S : DS) (now : Nat) (id : Int) (w : World) (h : DepM w D N c S) (hf : S.Fine c) (hid : wf64 id) (hnow : now ≤ 18446744073709551615) (hx : S.find id = none) :
    Calls Tryz.prog 33 #[ptr D.db, .int .u64 now, .int .i64 id] w (Told17L D N c (S.late c now id) w) := by
  obtain ⟨g, hg⟩ : ∃ g, w.heap.size = g := ⟨_, rfl⟩
  obtain ⟨fs, hu⟩ := undCL
  have HU := Lib.hid hu
  obtain ⟨fr, hur⟩ := undRs
  have HUR := Lib.hid hur
  have H := Lib.hid h
  have HF := Lib.hid hf
  have hE : S.late c now id = ⟨S, [], [], 0⟩ := by unfold DS.late; rw [hx]
  have HKN : Hid (S.knows id = false) := Lib.hid (by unfold DS.knows; rw [hx]; rfl)
  obtain ⟨R, hR⟩ : ∃ R, S.late c now id = R := ⟨_, rfl⟩
  rw [hR] at hE ⊢
  have HE := Lib.hid hE
  clear hR hE h hf hu hur hx
  unfold ptr
  go_enter Tryz.func33, Tryz.ntmps33
  go_wp2_with (first
    | (refine wpList_alloc_agg rfl 57 rfl g hg [.slice none 0 0, .slice none 0 0] (allocRs _) ?_; intro w1 k1 l1 s1; have K1 := Lib.hid k1; have L1 : Hid (Below w.heap.size w w1) := Lib.hid (by rw [hg]; exact l1); clear k1 l1)
    | (refine wpList_alloc_agg rfl 57 rfl (g + 1) s1 [.slice none 0 0, .slice none 0 0] (allocRs _) ?_; intro w2 k2 l2 s2; have KR2 := Lib.hid k2; have K2 := Lib.hid ((l2.block g (by omega)).trans K1.out); have L2 : Hid (Below w.heap.size w w2) := Lib.hid (L1.out.trans (l2.mono (by omega))); clear k2 l2 s1 s2)
    | (go_at_call 20; refine (knows_any D N c S id w2 (H.out.below L2.out) hid).mono ?_; rintro r w3 ⟨rfl, l3⟩; rw [HKN.out]; have L3 : Hid (Below w.heap.size w w3) := Lib.hid (L2.out.trans (l3.mono L2.out.size)); have K3 := Lib.hid (kb_below K2.out l3); have KR3 := Lib.hid (kb_below KR2.out l3); clear l3)
    | (refine wpList_load_agg rfl 57 _ rfl (g + 1) rfl [.slice none 0 0, .slice none 0 0] ?hz _ HUR.out rfl sizeRs ?_; (case hz => exact KR3.out))
    | (refine wpList_store_agg rfl 57 _ _ rfl g [.slice none 0 0, .slice none 0 0] [.slice none 0 0, .slice none 0 0] rfl rfl ?hz rfl sizeRs (onesRs _ _ _ _ _ _) ?_; (case hz => exact K3.out); intro w10 k10 f10 _; have K10 := Lib.hid k10; have F10 := Lib.hid f10; clear k10 f10))
  refine bodyPost_ret (v := .agg #[.slice none 0 0, .slice none 0 0]) (results_agg Tryz.results33 rfl (loadRs K10.out)) rfl ?_
  rw [HE.out]
  have bl : Below w.heap.size w w10 := (L3.out).trans (F10.out.below (by have := (L3.out).size; exact this) (fun j hj e => by have e' : j = g := e; omega))
  exact ⟨⟨_, rfl, none, 0, 0, none, 0, 0, rfl, RowR.nil _, RowR.nil _, Fresh.none _, Fresh.none _⟩, (H.out.below bl).grow (fun j hj => .inl hj.1) (fun j hj => ⟨H.out.inN j hj, H.out.old hj⟩), Frm.of_below bl⟩

set_option maxHeartbeats 8000000 in
theorem late_wait (D : DB) (N : Nat → Prop) (c : Cnf) (S : DS) (now : Nat) (id : Int) (w : World) (h : DepM w D N c S) (hf : S.Fine c) (hid : wf64 id) (hnow : now ≤ 18446744073709551615) (x : CL) (hx : S.find id = some x) (hs : x.k.st = 1) :
    Calls Tryz.prog 33 #[ptr D.db, .int .u64 now, .int .i64 id] w (Told17L D N c (S.late c now id) w) := by
  obtain ⟨g, hg⟩ : ∃ g, w.heap.size = g := ⟨_, rfl⟩
  obtain ⟨fs, hu⟩ := undCL
  have HU := Lib.hid hu
  obtain ⟨fr, hur⟩ := undRs
  have HUR := Lib.hid hur
  have H := Lib.hid h
  have HF := Lib.hid hf
  have hE : S.late c now id = ((S.bulB (S.bul.drop id)).count c now id 2).fall c now x 2 := by unfold DS.late; rw [hx]; dsimp only; rw [if_pos hs]
  have HX := Lib.hid hx
  have HXS := Lib.hid (hf.small x (cfind_some hx).1)
  have HKN : Hid (S.knows id = true) := Lib.hid (by unfold DS.knows; rw [hx]; rfl)
  have e1 : (x.k.st == 1) = true := by simp [hs]
  have e2 : (x.k.st == 2) = false := by simp [hs]
  have e3 : (x.k.st == 3) = false := by simp [hs]
  obtain ⟨R, hR⟩ : ∃ R, S.late c now id = R := ⟨_, rfl⟩
  rw [hR] at hE ⊢
  have HE := Lib.hid hE
  clear hR hE h hf hu hur hx hs
  unfold ptr
  go_enter Tryz.func33, Tryz.ntmps33
  go_wp2_with (first
    | (refine wpList_alloc_agg rfl 57 rfl g hg [.slice none 0 0, .slice none 0 0] (allocRs _) ?_; intro w1 k1 l1 s1; have K1 := Lib.hid k1; have L1 : Hid (Below w.heap.size w w1) := Lib.hid (by rw [hg]; exact l1); clear k1 l1)
    | (refine wpList_alloc_agg rfl 57 rfl (g + 1) s1 [.slice none 0 0, .slice none 0 0] (allocRs _) ?_; intro w2 k2 l2 s2; have KR2 := Lib.hid k2; have K2 := Lib.hid ((l2.block g (by omega)).trans K1.out); have L2 : Hid (Below w.heap.size w w2) := Lib.hid (L1.out.trans (l2.mono (by omega))); clear k2 l2 s1 s2)
    | (go_at_call 20; refine (knows_any D N c S id w2 (H.out.below L2.out) hid).mono ?_; rintro r w3 ⟨rfl, l3⟩; rw [HKN.out]; have L3 : Hid (Below w.heap.size w w3) := Lib.hid (L2.out.trans (l3.mono L2.out.size)); have K3 := Lib.hid (kb_below K2.out l3); have KR3 := Lib.hid (kb_below KR2.out l3); clear l3;
       have H3 : Hid (DepM w3 D (NU N w) c S) := Lib.hid (H.out.nu.below L3.out);
       obtain ⟨A, n, e, M, m, d, hlk, hbt, hof⟩ := H3.out.look (x := x) (by rw [show x.id = id from DS.find_id HX.out]; exact HX.out) (by rw [show x.id = id from DS.find_id HX.out]; exact hid) rfl;
       have HLK : (Instr.lookup 112 (.map (some D.cm)) (.int .i64 id) false).run Tryz.prog w3 = .ok (callV A n e M m d x.k) w3 := (by rw [show x.id = id from DS.find_id HX.out] at hlk; exact hlk);
       have BT := Lib.hid hbt; have OF := Lib.hid hof; have NM : Hid (n ≤ 1000 ∧ m ≤ 1000) := Lib.hid ⟨by rw [← hbt.alen]; exact HXS.out.1.1, by rw [← hbt.mlen]; exact HXS.out.1.2⟩;
       obtain ⟨_, _, _, _, _, c21, _⟩ := dobj_cells H3.out.blk; obtain ⟨g2, hg2⟩ : ∃ g2, w3.heap.size = g2 := ⟨_, rfl⟩; have G2 : Hid (g + 1 < g2) := Lib.hid (by rw [← hg2]; exact heap_lt KR3.out);
       clear hlk hbt hof)
    | (refine wpList_alloc_agg rfl 135 rfl g2 hg2 (kvals none 0 0 none 0 0 ⟨0, 0, 0, 0⟩) (allocCl _) ?_; intro w4 k4 l4 s4; have K4 := Lib.hid k4; have L4 : Hid (Below w3.heap.size w3 w4) := Lib.hid (by rw [hg2]; exact l4); clear k4 l4 s4 HLK c21)
    | (refine wpList_store_agg rfl 135 _ _ rfl g2 (kvals none 0 0 none 0 0 ⟨0, 0, 0, 0⟩) (kvals A n e M m d x.k) rfl rfl ?hz rfl sizeCL (onesK _ _ _ _ _ _ _) ?_; (case hz => exact K4.out); intro w5 k5 f5 z5;
       have KC5 : Hid (w5.heap[g2]? = some (kobj A n e M m d x.k)) := Lib.hid k5; have L5 : Hid (Below w3.heap.size w3 w5) := Lib.hid (L4.out.trans (f5.below L4.out.size (fun j hj e => by have e' : j = g2 := e; omega)));
       have K5 := Lib.hid (kb_below K3.out L5.out); have KR5 := Lib.hid (kb_below KR3.out L5.out); have H5 := Lib.hid (H3.out.below L5.out); have B5 := Lib.hid (BT.out.below L5.out); have F5 : Hid (Frm D.F w w5) := Lib.hid ((Frm.of_below L3.out).then_below L5.out);
       obtain ⟨_, c1, _, _, _, _, _⟩ := dobj_cells H5.out.blk;
       obtain ⟨q0, q1, q2, q3, q4, q5⟩ := kobj_cells' k5; clear k5 f5 z5)
    | (go_at_call 80; refine (drop_bul D.ub D.f S.bul id w5 H5.out.bul).mono ?_; rintro r w6 ⟨rfl, x6, f6⟩;
       have H6 := Lib.hid (H5.out.bul1 f6 x6);
       have NFg : ∀ j, g ≤ j → ¬ D.f.F j := fun j hj hc => (by have := H.out.old (.inr (.inr (.inl hc)) : D.F j); omega);
       have K6 := Lib.hid ((f6.block g (heap_lt K5.out) (NFg _ (Nat.le_refl _))).trans K5.out); have KR6 := Lib.hid ((f6.block (g + 1) (heap_lt KR5.out) (NFg _ (by omega))).trans KR5.out); have KC6 := Lib.hid ((f6.block g2 (heap_lt KC5.out) (NFg _ (by have := G2.out; omega))).trans KC5.out);
       have F6 : Hid (Frm D.F w w6) := Lib.hid (F5.out.trans (f6.mono (F' := D.F) (fun j _ e => .inr (.inr (.inl e)))) (fun _ _ h => h)); have B6 : Hid (Bat w6 A n e M m d x.zs x.ms) := Lib.hid (B5.out.frm f6 (OF.out.mono (fun j hj => H5.out.inN j (.inr (.inr (.inl hj))))));
       clear x6 f6 c1 NFg)
    | (go_at_call 66; refine (count_any D (NU N w) c (S.bulB (S.bul.drop id)) now 2 id w6 H6.out HF.out.fits hnow (by decide)).mono ?_; rintro r w7 ⟨rfl, h7, f7⟩;
       have NCg : ∀ j, g ≤ j → ¬ D.C j := fun j hj hc => (by have := H.out.old (DB.C_F hc); omega);
       have H7 := Lib.hid h7; have K7 := Lib.hid ((f7.block g (heap_lt K6.out) (NCg _ (Nat.le_refl _))).trans K6.out); have KR7 := Lib.hid ((f7.block (g + 1) (heap_lt KR6.out) (NCg _ (by omega))).trans KR6.out); have KC7 := Lib.hid ((f7.block g2 (heap_lt KC6.out) (NCg _ (by have := G2.out; omega))).trans KC6.out);
       have B7 : Hid (Bat w7 A n e M m d x.zs x.ms) := Lib.hid (B6.out.frm f7 (OF.out.mono (fun j hj => H5.out.inN j (DB.C_F hj))));
       have F7 : Hid (Frm D.F w w7) := Lib.hid (F6.out.trans (f7.mono (F' := D.F) (fun j _ e => DB.C_F e)) (fun _ _ h => h)); have HC7 : Hid ((DS.count c (S.bulB (S.bul.drop id)) now id 2).cs = S.cs) := Lib.hid (DS.count_cs _ _ _ _ _);
       clear h7 f7 NCg)
    | (refine wpList_load_agg rfl 135 _ rfl g2 rfl (kvals A n e M m d x.k) ?hz _ HU.out rfl sizeCL ?_; (case hz => exact KC7.out))
    | (go_at_call 70; refine (fall_any D (NU N w) c _ x A n e M m d (g + 1) g (.slice none 0 0) [] now 2 w7 H7.out B7.out (by rw [HC7.out]; exact Nat.lt_of_succ_lt HF.out.max) (resN_new KR7.out (by omega)) (fun j hj => by rcases hj with rfl | hj; exact .inr (by omega); cases hj) NM.out.1 NM.out.2 (fun j hj => by rw [← hg]; exact H.out.old hj) (by decide) HF.out.fits HF.out.chain HXS.out.2.1 hnow).mono ?_; rintro r w9 ⟨rfl, h9, ⟨v9, o9, rd9⟩, f9⟩;
       have H9 := Lib.hid h9; have KR9 := Lib.hid ((f9.block g (heap_lt K7.out) (fun hc => by rcases hc with hc | hc | hc; (have := H.out.old (DB.G_F hc); omega); (have e' : g = g + 1 := hc; omega); cases hc)).trans K7.out);
       have F9 : Hid (Frm D.F w w9) := Lib.hid (F7.out.trans f9 (fun j hj hc => by rcases hc with hc | hc | hc; exact DB.G_F hc; (have e' : j = g + 1 := hc; exfalso; omega); cases hc)); clear h9 f9 q0 q1 q2 q3 q4 q5;
       obtain ⟨A9, n9, e9, P9, q9, p9, rfl, rfl, ra9, ro9, fa9, fo9⟩ := rd9.val; have RD9 := Lib.hid rd9; have RA9 := Lib.hid ra9; have RO9 := Lib.hid ro9; have FA9 := Lib.hid fa9; have FO9 := Lib.hid fo9; clear rd9 ra9 ro9 fa9 fo9)
    | (refine wpList_load_agg rfl 57 _ rfl (g + 1) rfl [.slice A9 n9 e9, .slice P9 q9 p9] ?hz _ HUR.out rfl sizeRs ?_; (case hz => exact RD9.out.blk))
    | (refine wpList_store_agg rfl 57 _ _ rfl g [.slice none 0 0, .slice none 0 0] [.slice A9 n9 e9, .slice P9 q9 p9] rfl rfl ?hz rfl sizeRs (onesRs _ _ _ _ _ _) ?_; (case hz => exact KR9.out); intro w10 k10 f10 _; have K10 := Lib.hid k10; have F10 := Lib.hid f10; clear k10 f10))
  refine bodyPost_ret (v := .agg #[.slice A9 n9 e9, .slice P9 q9 p9]) (results_agg Tryz.results33 rfl (loadRs K10.out)) rfl ?_
  rw [HE.out]
  have h10 := H9.out.frm1 F10.out ⟨.inr (by omega), heap_lt K7.out⟩ (ty_cells KR9.out) (by decide) (by decide) (by decide) (by decide) (by decide) (by decide) (by decide)
  exact ⟨⟨_, rfl, by rw [hg]; exact ResV.cell RA9.out RO9.out FA9.out FO9.out KR9.out F10.out⟩, h10.grow (fun j hj => .inl ⟨.inl hj.1, Nat.lt_of_lt_of_le hj.2 F7.out.size⟩) (fun j hj => ⟨H.out.inN j hj, H.out.old hj⟩), F9.out.trans F10.out (fun j hj e => by have e' : j = g := e; exfalso; omega)⟩

set_option maxHeartbeats 8000000 in
theorem late_run (D : DB) (N : Nat → Prop) (c : Cnf) (S : DS) (now : Nat) (id : Int) (w : World) (h : DepM w D N c S) (hf : S.Fine c) (hid : wf64 id) (hnow : now ≤ 18446744073709551615) (x : CL) (hx : S.find id = some x) (hs : x.k.st = 2) :
    Calls Tryz.prog 33 #[ptr D.db, .int .u64 now, .int .i64 id] w (Told17L D N c (S.late c now id) w) := by
  obtain ⟨g, hg⟩ : ∃ g, w.heap.size = g := ⟨_, rfl⟩
  obtain ⟨fs, hu⟩ := undCL
  have HU := Lib.hid hu
  obtain ⟨fr, hur⟩ := undRs
  have HUR := Lib.hid hur
  have H := Lib.hid h
  have HF := Lib.hid hf
  have hE : S.late c now id = (S.count c now id 2).fall c now x 2 := by unfold DS.late; rw [hx]; dsimp only; rw [if_neg (by omega), if_pos hs]
  have HX := Lib.hid hx
  have HXS := Lib.hid (hf.small x (cfind_some hx).1)
  have HKN : Hid (S.knows id = true) := Lib.hid (by unfold DS.knows; rw [hx]; rfl)
  have e1 : (x.k.st == 1) = false := by simp [hs]
  have e2 : (x.k.st == 2) = true := by simp [hs]
  have e3 : (x.k.st == 3) = false := by simp [hs]
  obtain ⟨R, hR⟩ : ∃ R, S.late c now id = R := ⟨_, rfl⟩
  rw [hR] at hE ⊢
  have HE := Lib.hid hE
  clear hR hE h hf hu hur hx hs
  unfold ptr
  go_enter Tryz.func33, Tryz.ntmps33
  go_wp2_with (first
    | (refine wpList_alloc_agg rfl 57 rfl g hg [.slice none 0 0, .slice none 0 0] (allocRs _) ?_; intro w1 k1 l1 s1; have K1 := Lib.hid k1; have L1 : Hid (Below w.heap.size w w1) := Lib.hid (by rw [hg]; exact l1); clear k1 l1)
    | (refine wpList_alloc_agg rfl 57 rfl (g + 1) s1 [.slice none 0 0, .slice none 0 0] (allocRs _) ?_; intro w2 k2 l2 s2; have KR2 := Lib.hid k2; have K2 := Lib.hid ((l2.block g (by omega)).trans K1.out); have L2 : Hid (Below w.heap.size w w2) := Lib.hid (L1.out.trans (l2.mono (by omega))); clear k2 l2 s1 s2)
    | (go_at_call 20; refine (knows_any D N c S id w2 (H.out.below L2.out) hid).mono ?_; rintro r w3 ⟨rfl, l3⟩; rw [HKN.out]; have L3 : Hid (Below w.heap.size w w3) := Lib.hid (L2.out.trans (l3.mono L2.out.size)); have K3 := Lib.hid (kb_below K2.out l3); have KR3 := Lib.hid (kb_below KR2.out l3); clear l3;
       have H3 : Hid (DepM w3 D (NU N w) c S) := Lib.hid (H.out.nu.below L3.out);
       obtain ⟨A, n, e, M, m, d, hlk, hbt, hof⟩ := H3.out.look (x := x) (by rw [show x.id = id from DS.find_id HX.out]; exact HX.out) (by rw [show x.id = id from DS.find_id HX.out]; exact hid) rfl;
       have HLK : (Instr.lookup 112 (.map (some D.cm)) (.int .i64 id) false).run Tryz.prog w3 = .ok (callV A n e M m d x.k) w3 := (by rw [show x.id = id from DS.find_id HX.out] at hlk; exact hlk);
       have BT := Lib.hid hbt; have OF := Lib.hid hof; have NM : Hid (n ≤ 1000 ∧ m ≤ 1000) := Lib.hid ⟨by rw [← hbt.alen]; exact HXS.out.1.1, by rw [← hbt.mlen]; exact HXS.out.1.2⟩;
       obtain ⟨_, _, _, _, _, c21, _⟩ := dobj_cells H3.out.blk; obtain ⟨g2, hg2⟩ : ∃ g2, w3.heap.size = g2 := ⟨_, rfl⟩; have G2 : Hid (g + 1 < g2) := Lib.hid (by rw [← hg2]; exact heap_lt KR3.out);
       clear hlk hbt hof)
    | (refine wpList_alloc_agg rfl 135 rfl g2 hg2 (kvals none 0 0 none 0 0 ⟨0, 0, 0, 0⟩) (allocCl _) ?_; intro w4 k4 l4 s4; have K4 := Lib.hid k4; have L4 : Hid (Below w3.heap.size w3 w4) := Lib.hid (by rw [hg2]; exact l4); clear k4 l4 s4 HLK c21)
    | (refine wpList_store_agg rfl 135 _ _ rfl g2 (kvals none 0 0 none 0 0 ⟨0, 0, 0, 0⟩) (kvals A n e M m d x.k) rfl rfl ?hz rfl sizeCL (onesK _ _ _ _ _ _ _) ?_; (case hz => exact K4.out); intro w5 k5 f5 z5;
       have KC5 : Hid (w5.heap[g2]? = some (kobj A n e M m d x.k)) := Lib.hid k5; have L5 : Hid (Below w3.heap.size w3 w5) := Lib.hid (L4.out.trans (f5.below L4.out.size (fun j hj e => by have e' : j = g2 := e; omega)));
       have K5 := Lib.hid (kb_below K3.out L5.out); have KR5 := Lib.hid (kb_below KR3.out L5.out); have H5 := Lib.hid (H3.out.below L5.out); have B5 := Lib.hid (BT.out.below L5.out); have F5 : Hid (Frm D.F w w5) := Lib.hid ((Frm.of_below L3.out).then_below L5.out);
       obtain ⟨_, c1, _, _, _, _, _⟩ := dobj_cells H5.out.blk;
       obtain ⟨q0, q1, q2, q3, q4, q5⟩ := kobj_cells' k5; clear k5 f5 z5)
    | (go_at_call 66; refine (count_any D (NU N w) c S now 2 id w5 H5.out HF.out.fits hnow (by decide)).mono ?_; rintro r w7 ⟨rfl, h7, f7⟩;
       have NCg : ∀ j, g ≤ j → ¬ D.C j := fun j hj hc => (by have := H.out.old (DB.C_F hc); omega);
       have H7 := Lib.hid h7; have K7 := Lib.hid ((f7.block g (heap_lt K5.out) (NCg _ (Nat.le_refl _))).trans K5.out); have KR7 := Lib.hid ((f7.block (g + 1) (heap_lt KR5.out) (NCg _ (by omega))).trans KR5.out); have KC7 := Lib.hid ((f7.block g2 (heap_lt KC5.out) (NCg _ (by have := G2.out; omega))).trans KC5.out);
       have B7 : Hid (Bat w7 A n e M m d x.zs x.ms) := Lib.hid (B5.out.frm f7 (OF.out.mono (fun j hj => H5.out.inN j (DB.C_F hj))));
       have F7 : Hid (Frm D.F w w7) := Lib.hid (F5.out.trans (f7.mono (F' := D.F) (fun j _ e => DB.C_F e)) (fun _ _ h => h)); have HC7 : Hid ((DS.count c S now id 2).cs = S.cs) := Lib.hid (DS.count_cs _ _ _ _ _);
       clear h7 f7 NCg)
    | (refine wpList_load_agg rfl 135 _ rfl g2 rfl (kvals A n e M m d x.k) ?hz _ HU.out rfl sizeCL ?_; (case hz => exact KC7.out))
    | (go_at_call 70; refine (fall_any D (NU N w) c _ x A n e M m d (g + 1) g (.slice none 0 0) [] now 2 w7 H7.out B7.out (by rw [HC7.out]; exact Nat.lt_of_succ_lt HF.out.max) (resN_new KR7.out (by omega)) (fun j hj => by rcases hj with rfl | hj; exact .inr (by omega); cases hj) NM.out.1 NM.out.2 (fun j hj => by rw [← hg]; exact H.out.old hj) (by decide) HF.out.fits HF.out.chain HXS.out.2.1 hnow).mono ?_; rintro r w9 ⟨rfl, h9, ⟨v9, o9, rd9⟩, f9⟩;
       have H9 := Lib.hid h9; have KR9 := Lib.hid ((f9.block g (heap_lt K7.out) (fun hc => by rcases hc with hc | hc | hc; (have := H.out.old (DB.G_F hc); omega); (have e' : g = g + 1 := hc; omega); cases hc)).trans K7.out);
       have F9 : Hid (Frm D.F w w9) := Lib.hid (F7.out.trans f9 (fun j hj hc => by rcases hc with hc | hc | hc; exact DB.G_F hc; (have e' : j = g + 1 := hc; exfalso; omega); cases hc)); clear h9 f9 q0 q1 q2 q3 q4 q5;
       obtain ⟨A9, n9, e9, P9, q9, p9, rfl, rfl, ra9, ro9, fa9, fo9⟩ := rd9.val; have RD9 := Lib.hid rd9; have RA9 := Lib.hid ra9; have RO9 := Lib.hid ro9; have FA9 := Lib.hid fa9; have FO9 := Lib.hid fo9; clear rd9 ra9 ro9 fa9 fo9)
    | (refine wpList_load_agg rfl 57 _ rfl (g + 1) rfl [.slice A9 n9 e9, .slice P9 q9 p9] ?hz _ HUR.out rfl sizeRs ?_; (case hz => exact RD9.out.blk))
    | (refine wpList_store_agg rfl 57 _ _ rfl g [.slice none 0 0, .slice none 0 0] [.slice A9 n9 e9, .slice P9 q9 p9] rfl rfl ?hz rfl sizeRs (onesRs _ _ _ _ _ _) ?_; (case hz => exact KR9.out); intro w10 k10 f10 _; have K10 := Lib.hid k10; have F10 := Lib.hid f10; clear k10 f10))
  refine bodyPost_ret (v := .agg #[.slice A9 n9 e9, .slice P9 q9 p9]) (results_agg Tryz.results33 rfl (loadRs K10.out)) rfl ?_
  rw [HE.out]
  have h10 := H9.out.frm1 F10.out ⟨.inr (by omega), heap_lt K7.out⟩ (ty_cells KR9.out) (by decide) (by decide) (by decide) (by decide) (by decide) (by decide) (by decide)
  exact ⟨⟨_, rfl, by rw [hg]; exact ResV.cell RA9.out RO9.out FA9.out FO9.out KR9.out F10.out⟩, h10.grow (fun j hj => .inl ⟨.inl hj.1, Nat.lt_of_lt_of_le hj.2 F7.out.size⟩) (fun j hj => ⟨H.out.inN j hj, H.out.old hj⟩), F9.out.trans F10.out (fun j hj e => by have e' : j = g := e; exfalso; omega)⟩

set_option maxHeartbeats 8000000 in
theorem late_fall (D : DB) (N : Nat → Prop) (c : Cnf) (S : DS) (now : Nat) (id : Int) (w : World) (h : DepM w D N c S) (hf : S.Fine c) (hid : wf64 id) (hnow : now ≤ 18446744073709551615) (x : CL) (hx : S.find id = some x) (hs : x.k.st = 3) :
    Calls Tryz.prog 33 #[ptr D.db, .int .u64 now, .int .i64 id] w (Told17L D N c (S.late c now id) w) := by
  obtain ⟨g, hg⟩ : ∃ g, w.heap.size = g := ⟨_, rfl⟩
  obtain ⟨fs, hu⟩ := undCL
  have HU := Lib.hid hu
  obtain ⟨fr, hur⟩ := undRs
  have HUR := Lib.hid hur
  have H := Lib.hid h
  have HF := Lib.hid hf
  have hE : S.late c now id = S.fall c now x 2 := by unfold DS.late; rw [hx]; dsimp only; rw [if_neg (by omega), if_neg (by omega), if_pos hs]
  have HX := Lib.hid hx
  have HXS := Lib.hid (hf.small x (cfind_some hx).1)
  have HKN : Hid (S.knows id = true) := Lib.hid (by unfold DS.knows; rw [hx]; rfl)
  have e1 : (x.k.st == 1) = false := by simp [hs]
  have e2 : (x.k.st == 2) = false := by simp [hs]
  have e3 : (x.k.st == 3) = true := by simp [hs]
  obtain ⟨R, hR⟩ : ∃ R, S.late c now id = R := ⟨_, rfl⟩
  rw [hR] at hE ⊢
  have HE := Lib.hid hE
  clear hR hE h hf hu hur hx hs
  unfold ptr
  go_enter Tryz.func33, Tryz.ntmps33
  go_wp2_with (first
    | (refine wpList_alloc_agg rfl 57 rfl g hg [.slice none 0 0, .slice none 0 0] (allocRs _) ?_; intro w1 k1 l1 s1; have K1 := Lib.hid k1; have L1 : Hid (Below w.heap.size w w1) := Lib.hid (by rw [hg]; exact l1); clear k1 l1)
    | (refine wpList_alloc_agg rfl 57 rfl (g + 1) s1 [.slice none 0 0, .slice none 0 0] (allocRs _) ?_; intro w2 k2 l2 s2; have KR2 := Lib.hid k2; have K2 := Lib.hid ((l2.block g (by omega)).trans K1.out); have L2 : Hid (Below w.heap.size w w2) := Lib.hid (L1.out.trans (l2.mono (by omega))); clear k2 l2 s1 s2)
    | (go_at_call 20; refine (knows_any D N c S id w2 (H.out.below L2.out) hid).mono ?_; rintro r w3 ⟨rfl, l3⟩; rw [HKN.out]; have L3 : Hid (Below w.heap.size w w3) := Lib.hid (L2.out.trans (l3.mono L2.out.size)); have K3 := Lib.hid (kb_below K2.out l3); have KR3 := Lib.hid (kb_below KR2.out l3); clear l3;
       have H3 : Hid (DepM w3 D (NU N w) c S) := Lib.hid (H.out.nu.below L3.out);
       obtain ⟨A, n, e, M, m, d, hlk, hbt, hof⟩ := H3.out.look (x := x) (by rw [show x.id = id from DS.find_id HX.out]; exact HX.out) (by rw [show x.id = id from DS.find_id HX.out]; exact hid) rfl;
       have HLK : (Instr.lookup 112 (.map (some D.cm)) (.int .i64 id) false).run Tryz.prog w3 = .ok (callV A n e M m d x.k) w3 := (by rw [show x.id = id from DS.find_id HX.out] at hlk; exact hlk);
       have BT := Lib.hid hbt; have OF := Lib.hid hof; have NM : Hid (n ≤ 1000 ∧ m ≤ 1000) := Lib.hid ⟨by rw [← hbt.alen]; exact HXS.out.1.1, by rw [← hbt.mlen]; exact HXS.out.1.2⟩;
       obtain ⟨_, _, _, _, _, c21, _⟩ := dobj_cells H3.out.blk; obtain ⟨g2, hg2⟩ : ∃ g2, w3.heap.size = g2 := ⟨_, rfl⟩; have G2 : Hid (g + 1 < g2) := Lib.hid (by rw [← hg2]; exact heap_lt KR3.out);
       clear hlk hbt hof)
    | (refine wpList_alloc_agg rfl 135 rfl g2 hg2 (kvals none 0 0 none 0 0 ⟨0, 0, 0, 0⟩) (allocCl _) ?_; intro w4 k4 l4 s4; have K4 := Lib.hid k4; have L4 : Hid (Below w3.heap.size w3 w4) := Lib.hid (by rw [hg2]; exact l4); clear k4 l4 s4 HLK c21)
    | (refine wpList_store_agg rfl 135 _ _ rfl g2 (kvals none 0 0 none 0 0 ⟨0, 0, 0, 0⟩) (kvals A n e M m d x.k) rfl rfl ?hz rfl sizeCL (onesK _ _ _ _ _ _ _) ?_; (case hz => exact K4.out); intro w5 k5 f5 z5;
       have KC5 : Hid (w5.heap[g2]? = some (kobj A n e M m d x.k)) := Lib.hid k5; have L5 : Hid (Below w3.heap.size w3 w5) := Lib.hid (L4.out.trans (f5.below L4.out.size (fun j hj e => by have e' : j = g2 := e; omega)));
       have K5 := Lib.hid (kb_below K3.out L5.out); have KR5 := Lib.hid (kb_below KR3.out L5.out); have H5 := Lib.hid (H3.out.below L5.out); have B5 := Lib.hid (BT.out.below L5.out); have F5 : Hid (Frm D.F w w5) := Lib.hid ((Frm.of_below L3.out).then_below L5.out);
       obtain ⟨_, c1, _, _, _, _, _⟩ := dobj_cells H5.out.blk;
       obtain ⟨q0, q1, q2, q3, q4, q5⟩ := kobj_cells' k5; clear k5 f5 z5)
    | (refine wpList_load_agg rfl 135 _ rfl g2 rfl (kvals A n e M m d x.k) ?hz _ HU.out rfl sizeCL ?_; (case hz => exact KC5.out))
    | (go_at_call 70; refine (fall_any D (NU N w) c S x A n e M m d (g + 1) g (.slice none 0 0) [] now 2 w5 H5.out B5.out (by skip; exact Nat.lt_of_succ_lt HF.out.max) (resN_new KR5.out (by omega)) (fun j hj => by rcases hj with rfl | hj; exact .inr (by omega); cases hj) NM.out.1 NM.out.2 (fun j hj => by rw [← hg]; exact H.out.old hj) (by decide) HF.out.fits HF.out.chain HXS.out.2.1 hnow).mono ?_; rintro r w9 ⟨rfl, h9, ⟨v9, o9, rd9⟩, f9⟩;
       have H9 := Lib.hid h9; have KR9 := Lib.hid ((f9.block g (heap_lt K5.out) (fun hc => by rcases hc with hc | hc | hc; (have := H.out.old (DB.G_F hc); omega); (have e' : g = g + 1 := hc; omega); cases hc)).trans K5.out);
       have F9 : Hid (Frm D.F w w9) := Lib.hid (F5.out.trans f9 (fun j hj hc => by rcases hc with hc | hc | hc; exact DB.G_F hc; (have e' : j = g + 1 := hc; exfalso; omega); cases hc)); clear h9 f9 q0 q1 q2 q3 q4 q5;
       obtain ⟨A9, n9, e9, P9, q9, p9, rfl, rfl, ra9, ro9, fa9, fo9⟩ := rd9.val; have RD9 := Lib.hid rd9; have RA9 := Lib.hid ra9; have RO9 := Lib.hid ro9; have FA9 := Lib.hid fa9; have FO9 := Lib.hid fo9; clear rd9 ra9 ro9 fa9 fo9)
    | (refine wpList_load_agg rfl 57 _ rfl (g + 1) rfl [.slice A9 n9 e9, .slice P9 q9 p9] ?hz _ HUR.out rfl sizeRs ?_; (case hz => exact RD9.out.blk))
    | (refine wpList_store_agg rfl 57 _ _ rfl g [.slice none 0 0, .slice none 0 0] [.slice A9 n9 e9, .slice P9 q9 p9] rfl rfl ?hz rfl sizeRs (onesRs _ _ _ _ _ _) ?_; (case hz => exact KR9.out); intro w10 k10 f10 _; have K10 := Lib.hid k10; have F10 := Lib.hid f10; clear k10 f10))
  refine bodyPost_ret (v := .agg #[.slice A9 n9 e9, .slice P9 q9 p9]) (results_agg Tryz.results33 rfl (loadRs K10.out)) rfl ?_
  rw [HE.out]
  have h10 := H9.out.frm1 F10.out ⟨.inr (by omega), heap_lt K5.out⟩ (ty_cells KR9.out) (by decide) (by decide) (by decide) (by decide) (by decide) (by decide) (by decide)
  exact ⟨⟨_, rfl, by rw [hg]; exact ResV.cell RA9.out RO9.out FA9.out FO9.out KR9.out F10.out⟩, h10.grow (fun j hj => .inl ⟨.inl hj.1, Nat.lt_of_lt_of_le hj.2 F5.out.size⟩) (fun j hj => ⟨H.out.inN j hj, H.out.old hj⟩), F9.out.trans F10.out (fun j hj e => by have e' : j = g := e; exfalso; omega)⟩

set_option maxHeartbeats 8000000 in
theorem late_over (D : DB) (N : Nat → Prop) (c : Cnf) (S : DS) (now : Nat) (id : Int) (w : World) (h : DepM w D N c S) (hf : S.Fine c) (hid : wf64 id) (hnow : now ≤ 18446744073709551615) (x : CL) (hx : S.find id = some x) (hs : ¬ x.k.st = 1 ∧ ¬ x.k.st = 2 ∧ ¬ x.k.st = 3) :
    Calls Tryz.prog 33 #[ptr D.db, .int .u64 now, .int .i64 id] w (Told17L D N c (S.late c now id) w) := by
  obtain ⟨g, hg⟩ : ∃ g, w.heap.size = g := ⟨_, rfl⟩
  obtain ⟨fs, hu⟩ := undCL
  have HU := Lib.hid hu
  obtain ⟨fr, hur⟩ := undRs
  have HUR := Lib.hid hur
  have H := Lib.hid h
  have HF := Lib.hid hf
  have hE : S.late c now id = ⟨S, [], [], 0⟩ := by unfold DS.late; rw [hx]; dsimp only; rw [if_neg hs.1, if_neg hs.2.1, if_neg hs.2.2]
  have HX := Lib.hid hx
  have HXS := Lib.hid (hf.small x (cfind_some hx).1)
  have HKN : Hid (S.knows id = true) := Lib.hid (by unfold DS.knows; rw [hx]; rfl)
  have e1 : (x.k.st == 1) = false := by simp [hs.1]
  have e2 : (x.k.st == 2) = false := by simp [hs.2.1]
  have e3 : (x.k.st == 3) = false := by simp [hs.2.2]
  obtain ⟨R, hR⟩ : ∃ R, S.late c now id = R := ⟨_, rfl⟩
  rw [hR] at hE ⊢
  have HE := Lib.hid hE
  clear hR hE h hf hu hur hx hs
  unfold ptr
  go_enter Tryz.func33, Tryz.ntmps33
  go_wp2_with (first
    | (refine wpList_alloc_agg rfl 57 rfl g hg [.slice none 0 0, .slice none 0 0] (allocRs _) ?_; intro w1 k1 l1 s1; have K1 := Lib.hid k1; have L1 : Hid (Below w.heap.size w w1) := Lib.hid (by rw [hg]; exact l1); clear k1 l1)
    | (refine wpList_alloc_agg rfl 57 rfl (g + 1) s1 [.slice none 0 0, .slice none 0 0] (allocRs _) ?_; intro w2 k2 l2 s2; have KR2 := Lib.hid k2; have K2 := Lib.hid ((l2.block g (by omega)).trans K1.out); have L2 : Hid (Below w.heap.size w w2) := Lib.hid (L1.out.trans (l2.mono (by omega))); clear k2 l2 s1 s2)
    | (go_at_call 20; refine (knows_any D N c S id w2 (H.out.below L2.out) hid).mono ?_; rintro r w3 ⟨rfl, l3⟩; rw [HKN.out]; have L3 : Hid (Below w.heap.size w w3) := Lib.hid (L2.out.trans (l3.mono L2.out.size)); have K3 := Lib.hid (kb_below K2.out l3); have KR3 := Lib.hid (kb_below KR2.out l3); clear l3;
       have H3 : Hid (DepM w3 D (NU N w) c S) := Lib.hid (H.out.nu.below L3.out);
       obtain ⟨A, n, e, M, m, d, hlk, hbt, hof⟩ := H3.out.look (x := x) (by rw [show x.id = id from DS.find_id HX.out]; exact HX.out) (by rw [show x.id = id from DS.find_id HX.out]; exact hid) rfl;
       have HLK : (Instr.lookup 112 (.map (some D.cm)) (.int .i64 id) false).run Tryz.prog w3 = .ok (callV A n e M m d x.k) w3 := (by rw [show x.id = id from DS.find_id HX.out] at hlk; exact hlk);
       have BT := Lib.hid hbt; have OF := Lib.hid hof; have NM : Hid (n ≤ 1000 ∧ m ≤ 1000) := Lib.hid ⟨by rw [← hbt.alen]; exact HXS.out.1.1, by rw [← hbt.mlen]; exact HXS.out.1.2⟩;
       obtain ⟨_, _, _, _, _, c21, _⟩ := dobj_cells H3.out.blk; obtain ⟨g2, hg2⟩ : ∃ g2, w3.heap.size = g2 := ⟨_, rfl⟩; have G2 : Hid (g + 1 < g2) := Lib.hid (by rw [← hg2]; exact heap_lt KR3.out);
       clear hlk hbt hof)
    | (refine wpList_alloc_agg rfl 135 rfl g2 hg2 (kvals none 0 0 none 0 0 ⟨0, 0, 0, 0⟩) (allocCl _) ?_; intro w4 k4 l4 s4; have K4 := Lib.hid k4; have L4 : Hid (Below w3.heap.size w3 w4) := Lib.hid (by rw [hg2]; exact l4); clear k4 l4 s4 HLK c21)
    | (refine wpList_store_agg rfl 135 _ _ rfl g2 (kvals none 0 0 none 0 0 ⟨0, 0, 0, 0⟩) (kvals A n e M m d x.k) rfl rfl ?hz rfl sizeCL (onesK _ _ _ _ _ _ _) ?_; (case hz => exact K4.out); intro w5 k5 f5 z5;
       have KC5 : Hid (w5.heap[g2]? = some (kobj A n e M m d x.k)) := Lib.hid k5; have L5 : Hid (Below w3.heap.size w3 w5) := Lib.hid (L4.out.trans (f5.below L4.out.size (fun j hj e => by have e' : j = g2 := e; omega)));
       have K5 := Lib.hid (kb_below K3.out L5.out); have KR5 := Lib.hid (kb_below KR3.out L5.out); have H5 := Lib.hid (H3.out.below L5.out); have B5 := Lib.hid (BT.out.below L5.out); have F5 : Hid (Frm D.F w w5) := Lib.hid ((Frm.of_below L3.out).then_below L5.out);
       obtain ⟨_, c1, _, _, _, _, _⟩ := dobj_cells H5.out.blk;
       obtain ⟨q0, q1, q2, q3, q4, q5⟩ := kobj_cells' k5; clear k5 f5 z5)
    | (refine wpList_load_agg rfl 57 _ rfl (g + 1) rfl [.slice none 0 0, .slice none 0 0] ?hz _ HUR.out rfl sizeRs ?_; (case hz => exact KR5.out))
    | (refine wpList_store_agg rfl 57 _ _ rfl g [.slice none 0 0, .slice none 0 0] [.slice none 0 0, .slice none 0 0] rfl rfl ?hz rfl sizeRs (onesRs _ _ _ _ _ _) ?_; (case hz => exact K5.out); intro w10 k10 f10 _; have K10 := Lib.hid k10; have F10 := Lib.hid f10; clear k10 f10))
  refine bodyPost_ret (v := .agg #[.slice none 0 0, .slice none 0 0]) (results_agg Tryz.results33 rfl (loadRs K10.out)) rfl ?_
  rw [HE.out]
  have bl : Below w.heap.size w w10 := (L3.out.trans (L5.out.mono L3.out.size)).trans (F10.out.below (by have := (L3.out.trans (L5.out.mono L3.out.size)).size; exact this) (fun j hj e => by have e' : j = g := e; omega))
  exact ⟨⟨_, rfl, none, 0, 0, none, 0, 0, rfl, RowR.nil _, RowR.nil _, Fresh.none _, Fresh.none _⟩, (H.out.below bl).grow (fun j hj => .inl hj.1) (fun j hj => ⟨H.out.inN j hj, H.out.old hj⟩), Frm.of_below bl⟩

theorem late_any (D : DB) (N : Nat → Prop) (c : Cnf) (S : DS) (now : Nat) (id : Int) (w : World) (h : DepM w D N c S) (hf : S.Fine c) (hid : wf64 id) (hnow : now ≤ 18446744073709551615) :
    Calls Tryz.prog 33 #[ptr D.db, .int .u64 now, .int .i64 id] w (Told17L D N c (S.late c now id) w) := by
  cases hx : S.find id with
  | none => exact late_none D N c S now id w h hf hid hnow hx
  | some x =>
    by_cases h1 : x.k.st = 1
    · exact late_wait D N c S now id w h hf hid hnow x hx h1
    · by_cases h2 : x.k.st = 2
      · exact late_run D N c S now id w h hf hid hnow x hx h2
      · by_cases h3 : x.k.st = 3
        · exact late_fall D N c S now id w h hf hid hnow x hx h3
        · exact late_over D N c S now id w h hf hid hnow x hx ⟨h1, h2, h3⟩
end Go.Proofs.YtgnccpmkdgfjeaaGreat

namespace Go.Proofs.YtgnccpmkdgfjeaaGreat
set_option linter.unusedVariables false
set_option maxRecDepth 100000
open Go.ChangeShapes Go.WideShapes Go.ChangeAt Go.RowKit

/-- A snapshot by value. -/
def snapL (s : SN) : List Value := [.int .i64 s.busy, .int .i64 s.waiting, .int .i64 s.falls, .int .i64 s.calls, .int .i64 s.state, .int .u64 s.cnt.c0, .int .u64 s.cnt.c1, .int .u64 s.cnt.c2, .int .u64 s.cnt.c3, .int .u64 s.cnt.c4, .int .u64 s.half, .int .u64 s.all]
theorem onesSn (s : SN) : Ones (snapL s) := by intro v hv; simp only [snapL, List.mem_cons, List.not_mem_nil, or_false] at hv; rcases hv with rfl | rfl | rfl | rfl | rfl | rfl | rfl | rfl | rfl | rfl | rfl | rfl <;> rfl
def zeroSn : SN := ⟨0, 0, 0, 0, 0, K5.zero, 0, 0⟩
theorem undSn : ∃ fs, Tryz.prog.underlying 75 = some (.struct fs) := ⟨_, Tryz.underlying75⟩
theorem sizeSn (s : SN) : (Tryz.prog.info? 75).map (·.size) = some (snapL s).length := by rw [show (snapL s).length = 12 from rfl]; kernel_rfl
theorem allocSn (w : World) : (Instr.alloc 75 true (.tuple #[])).run Tryz.prog w = .ok (.pointer (some ⟨w.heap.size, 0, none⟩)) (w.alloc (vobj 75 (snapL zeroSn))) := by kernel_rfl
theorem buildSn (w : World) : (Instr.build 75 #[]).run Tryz.prog w = .ok (.agg (aggV (snapL zeroSn))) w := by kernel_rfl
theorem loadSn {w : World} {g : Nat} {s : SN} (h : w.heap[g]? = some (vobj 75 (snapL s))) : (loadVar 75 ⟨g, 0, none⟩).run Tryz.prog w = .ok (.agg (aggV (snapL s))) w := by
  obtain ⟨fs, hu⟩ := undSn
  exact run_load_agg w _ g (snapL s) _ h hu rfl (sizeSn s)
theorem His.ok65 {w : World} {b B W t : Nat} {F : Cnt} (h : His w b B W t F) (t' B' : Nat) : Ok65 (allL F t' B') := by
  obtain ⟨Z, _, hl⟩ := h.blk
  refine ⟨allL_len _ _ _, fun n hn => ?_⟩
  unfold allL at hn
  rw [List.mem_map] at hn
  obtain ⟨k, _, rfl⟩ := hn
  exact satS_bd (tot_nonneg (fun q => (hl.bd q k).1))
theorem DepM.clen {w : World} {D : DB} {N : Nat → Prop} {c : Cnf} {S : DS} (h : DepM w D N c S) : ∀ ty, (Builtin.len_ #[112] ty #[.map (some D.cm)]).run Tryz.prog w = .ok (.int .i64 S.cs.length) w := fun ty => by
  obtain ⟨g, h1, _⟩ := h.cls
  exact h1.len calls_map ty
/-- What looking may turn. -/
def DB.L (D : DB) (j : Nat) : Prop := j = D.wb ∨ j = D.hb
theorem DB.L_F {D : DB} {j : Nat} (h : D.L j) : D.F j := by
  rcases h with h | h
  · exact .inr (.inr (.inr (.inl h)))
  · exact .inr (.inr (.inr (.inr (.inl h))))
theorem snap_dnil (now : Int) (w : World) : Calls Tryz.prog 22 #[.pointer none, .int .u64 now] w fun r w' => r = .returned (.agg (aggV (snapL zeroSn))) ∧ Below w.heap.size w w' := by
  obtain ⟨g, hg⟩ : ∃ g, w.heap.size = g := ⟨_, rfl⟩
  go_enter Tryz.func22, Tryz.ntmps22
  go_wp2_with (first
    | (refine wpList_alloc_agg rfl 75 rfl g hg (snapL zeroSn) (allocSn _) ?_; intro w1 k1 l1 s1; have K1 := Lib.hid k1; have L1 : Hid (Below w.heap.size w w1) := Lib.hid (by rw [hg]; exact l1); clear k1 l1 s1)
    | (refine wpList_build_agg rfl 75 #[] rfl (snapL zeroSn) (buildSn _) ?_)
    | (refine wpList_store_agg rfl 75 _ _ rfl g (snapL zeroSn) (snapL zeroSn) rfl rfl ?hz rfl (sizeSn _) (onesSn _) ?_; (case hz => exact K1.out); intro w2 k2 f2 _; have K2 := Lib.hid k2; have F2 := Lib.hid f2; clear k2 f2))
  refine bodyPost_ret (v := .agg (aggV (snapL zeroSn))) (results_agg Tryz.results22 rfl (loadSn K2.out)) rfl ?_
  exact ⟨rfl, L1.out.trans (F2.out.below L1.out.size (fun j hj e => by have e' : j = g := e; omega))⟩
theorem DepM.pct {w : World} {D : DB} {N : Nat → Prop} {c : Cnf} {S : DS} (h : DepM w D N c S) (now : Nat) (hn : now ≤ 18446744073709551615) (p : Int) (hp : 1 ≤ p) (hp' : p ≤ 100) :
    Calls Tryz.prog 54 #[.pointer (some ⟨D.hb, 0, none⟩), .int .u64 now, .int .i64 p] w fun r w' => (∃ b, r = .returned (.tuple #[.int .u64 (pctX ((S.seeH c now).histL c) p), .bool b])) ∧ DepM w' D N c (S.seeH c now) ∧ Frm D.L w w' := by
  have e : clampP p = p := by unfold clampP; rw [if_neg (by omega), if_neg (by omega)]
  refine (pct_of (some ⟨D.hb, 0, none⟩) now p (allL S.hF (max (now / c.W) S.ht) c.B) (fun w1 => Frm (· = D.hb) w w1 ∧ His w1 D.hb c.B c.W (max (now / c.W) S.ht) S.hF) w (h.his.ok65 _ _) (by omega) (by omega) (hall_his D.hb c.B c.W S.ht now S.hF w h.his hn)).mono ?_
  rintro r w' ⟨rfl, w1, ⟨f1, x1⟩, b1⟩
  rw [e]
  exact ⟨⟨_, rfl⟩, (h.his1 f1 x1).below b1, (f1.mono (F' := D.L) (fun j _ e => .inr e)).then_below b1⟩
theorem DS.seeH_seeH (c : Cnf) (S : DS) (now : Nat) : (S.seeH c now).seeH c now = S.seeH c now := by
  unfold DS.seeH DS.hgo
  simp only
  rw [show max (now / c.W) (max (now / c.W) S.ht) = max (now / c.W) S.ht by omega]

set_option maxHeartbeats 8000000 in
theorem snap_any (D : DB) (N : Nat → Prop) (c : Cnf) (S : DS) (now : Nat) (w : World) (h : DepM w D N c S) (hn : now ≤ 18446744073709551615) :
    Calls Tryz.prog 22 #[ptr D.db, .int .u64 now] w fun r w' => r = .returned (.agg (aggV (snapL ((S.look c now).snap c)))) ∧ DepM w' D (NB N w) c (S.look c now) ∧ Frm D.L w w' := by
  obtain ⟨g, hg⟩ : ∃ g, w.heap.size = g := ⟨_, rfl⟩
  have H := Lib.hid h
  obtain ⟨s, hs⟩ : ∃ s, (S.look c now).snap c = s := ⟨_, rfl⟩
  rw [hs]
  have HS := Lib.hid hs.symm
  have NL : Hid (∀ j, g ≤ j → ¬ D.L j) := Lib.hid (fun j hj hc => by have := h.old (DB.L_F hc); omega)
  obtain ⟨half, hhf⟩ : ∃ x, pctX ((S.seeH c now).histL c) 50 = x := ⟨_, rfl⟩
  obtain ⟨all, hal⟩ : ∃ x, pctX ((S.seeH c now).histL c) 100 = x := ⟨_, rfl⟩
  have HHF := Lib.hid hhf
  have HAL := Lib.hid hal
  clear h hs hhf hal
  unfold ptr
  go_enter Tryz.func22, Tryz.ntmps22
  go_wp2_with (first
    | (refine wpList_alloc_agg rfl 75 rfl g hg (snapL zeroSn) (allocSn _) ?_; intro w1 k1 l1 s1; have K1 := Lib.hid k1; have L1 : Hid (Below w.heap.size w w1) := Lib.hid (by rw [hg]; exact l1); clear k1 l1 s1;
       have H1 : Hid (DepM w1 D (NU N w) c S) := Lib.hid (H.out.nu.below L1.out); obtain ⟨_, _, _, c19, _, _, _⟩ := dobj_cells H1.out.blk)
    | (go_at_call 54; go_loud (
       refine (H1.out.pct now hn 50 (by decide) (by decide)).mono ?_; rintro r w2 ⟨⟨b2, rfl⟩, h2, f2⟩; rw [HHF.out];
       have H2 := Lib.hid h2; have K2 := Lib.hid ((f2.block g (heap_lt K1.out) (NL.out _ (Nat.le_refl _))).trans K1.out); have F2 : Hid (Frm D.L w w2) := Lib.hid ((Frm.of_below L1.out).trans f2 (fun _ _ h => h)); clear h2 f2 c19 H1;
       obtain ⟨_, _, _, d19, _, _, _⟩ := dobj_cells H2.out.blk))
    | (go_at_call 54; go_loud (
       refine (H2.out.pct now hn 100 (by decide) (by decide)).mono ?_; rintro r w3 ⟨⟨b3, rfl⟩, h3, f3⟩; rw [DS.seeH_seeH] at h3 ⊢; rw [HAL.out];
       have H3 := Lib.hid h3; have K3 := Lib.hid ((f3.block g (heap_lt K2.out) (NL.out _ (Nat.le_refl _))).trans K2.out); have F3 : Hid (Frm D.L w w3) := Lib.hid (F2.out.trans f3 (fun _ _ h => h)); clear h3 f3 d19)))
  have DD := Lib.hid (H3.out.ali (drew_ali _))
  have KD : Hid (w3.drew.heap[g]? = some (vobj 75 (snapL zeroSn))) := K3
  have FD : Hid (Frm D.L w w3.drew) := Lib.hid (F3.out.ali (drew_ali _))
  obtain ⟨wd, hwd⟩ : ∃ wd, w3.drew = wd := ⟨_, rfl⟩
  rw [hwd] at DD KD FD
  have HWD := Lib.hid hwd
  obtain ⟨T, hT⟩ : ∃ T, S.seeH c now = T := ⟨_, rfl⟩
  rw [hT] at DD
  have HT := Lib.hid hT.symm
  have SS : Hid (∀ wx D' , D' = T → DepM wx D (NU N w) c D' → (wx.cell? ⟨D.db, 0, none⟩ = some (.pointer (some ⟨D.kb, 0, none⟩)) ∧ wx.cell? ⟨D.db, 1, none⟩ = some (.pointer (some ⟨D.ub, 0, none⟩)) ∧ wx.cell? ⟨D.db, 18, none⟩ = some (.pointer (some ⟨D.wb, 0, none⟩)) ∧ wx.cell? ⟨D.db, 20, none⟩ = some (.pointer (some ⟨D.fb, 0, none⟩)) ∧ wx.cell? ⟨D.db, 21, none⟩ = some (.map (some D.cm)))) :=
    Lib.hid (fun wx D' _ hd => by obtain ⟨e0, e1, e18, _, e20, e21, _⟩ := dobj_cells hd.blk; exact ⟨e0, e1, e18, e20, e21⟩)
  have hc0 := SS.out wd T rfl DD.out
  clear hwd hT K3 F3 H3
  refine wp_region_held_drew (S := fun wx => wx.cell? ⟨D.db, 0, none⟩ = some (.pointer (some ⟨D.kb, 0, none⟩)) ∧ wx.cell? ⟨D.db, 1, none⟩ = some (.pointer (some ⟨D.ub, 0, none⟩)) ∧ wx.cell? ⟨D.db, 18, none⟩ = some (.pointer (some ⟨D.wb, 0, none⟩)) ∧ wx.cell? ⟨D.db, 20, none⟩ = some (.pointer (some ⟨D.fb, 0, none⟩)) ∧ wx.cell? ⟨D.db, 21, none⟩ = some (.map (some D.cm))) (by kernel_rfl) (by rw [HWD.out]; exact hc0) (fun hHeld => ?_)
  rw [HWD.out] at hHeld ⊢
  refine wpAnyH_take (i := 0) (oi := ⟨_, _, _, _, _, _⟩) (v := ?_) rfl (by kernel_rfl) (by kernel_rfl) (by kernel_rfl) (fun _ _ _ h => h) (Or.inl ⟨by rfl, ?_⟩) (by assumption) ?_
  rotate_left
  · intro w hSw; (try dsimp only at hSw); go_simp; try (with_reducible rfl)
  try go_frame
  refine wpAnyH_take (i := 1) (oi := ⟨_, _, _, _, _, _⟩) (v := ?_) rfl (by kernel_rfl) (by kernel_rfl) (by kernel_rfl) (fun _ _ _ h => h) (Or.inl ⟨by rfl, ?_⟩) (by assumption) ?_
  rotate_left
  · intro w hSw; (try dsimp only at hSw); go_simp; try (with_reducible rfl)
  try go_frame
  refine wpAnyH_take (i := 2) (oi := ⟨_, _, _, _, _, _⟩) (v := ?_) rfl (by kernel_rfl) (by kernel_rfl) (by kernel_rfl) (fun _ _ _ h => h) (Or.inl ⟨by rfl, ?_⟩) (by assumption) ?_
  rotate_left
  · intro w hSw; (try dsimp only at hSw); go_simp; try (with_reducible rfl)
  try go_frame
  refine wpAnyH_take (i := 3) (oi := ⟨_, _, _, _, _, _⟩) (v := ?_) rfl (by kernel_rfl) (by kernel_rfl) (by kernel_rfl) (fun _ _ _ h => h) (Or.inl ⟨by rfl, ?_⟩) (by assumption) ?_
  rotate_left
  · intro w hSw; (try dsimp only at hSw); go_simp; try (with_reducible rfl)
  try go_frame
  refine wpAnyH_take (i := 5) (oi := ⟨_, _, _, _, _, _⟩) (v := ?_) rfl (by kernel_rfl) (by kernel_rfl) (by kernel_rfl) (fun _ _ _ h => h) (Or.inl ⟨by rfl, ?_⟩) (by assumption) ?_
  rotate_left
  · intro w hSw; (try dsimp only at hSw); go_simp; try (with_reducible rfl)
  try go_frame
  refine wpAnyH_take (i := 6) (oi := ⟨_, _, _, _, _, _⟩) (v := ?_) rfl (by kernel_rfl) (by kernel_rfl) (by kernel_rfl) (fun _ _ _ h => h) (Or.inl ⟨by rfl, ?_⟩) (by assumption) ?_
  rotate_left
  · intro w hSw; (try dsimp only at hSw); go_simp; try (with_reducible rfl)
  try go_frame
  refine wpAnyH_take (i := 7) (oi := ⟨_, _, _, _, _, _⟩) (v := ?_) rfl (by kernel_rfl) (by kernel_rfl) (by kernel_rfl) (fun _ _ _ h => h) (Or.inl ⟨by rfl, ?_⟩) (by assumption) ?_
  rotate_left
  · intro w hSw; (try dsimp only at hSw); go_simp; try (with_reducible rfl)
  try go_frame
  refine wpAnyH_take (i := 8) (oi := ⟨_, _, _, _, _, _⟩) (v := ?_) rfl (by kernel_rfl) (by kernel_rfl) (by kernel_rfl) (fun _ _ _ h => h) (Or.inl ⟨by rfl, ?_⟩) (by assumption) ?_
  rotate_left
  · intro w hSw; (try dsimp only at hSw); go_simp; try (with_reducible rfl)
  try go_frame
  refine wpAnyH_take (i := 11) (oi := ⟨_, _, _, _, _, _⟩) (v := ?_) rfl (by kernel_rfl) (by kernel_rfl) (by kernel_rfl) (fun _ _ _ h => h) (Or.inl ⟨by rfl, ?_⟩) (by assumption) ?_
  rotate_left
  · intro w hSw; (try dsimp only at hSw); go_simp; try (with_reducible rfl)
  try go_frame
  refine wpAnyH_take (i := 12) (oi := ⟨_, _, _, _, _, _⟩) (v := ?_) rfl (by kernel_rfl) (by kernel_rfl) (by kernel_rfl) (fun _ _ _ h => h) (Or.inl ⟨by rfl, ?_⟩) (by assumption) ?_
  rotate_left
  · intro w hSw; (try dsimp only at hSw); go_simp; try (with_reducible rfl)
  try go_frame
  refine wpAnyH_take (i := 13) (oi := ⟨_, _, _, _, _, _⟩) (v := ?_) rfl (by kernel_rfl) (by kernel_rfl) (by kernel_rfl) (fun _ _ _ h => h) (Or.inl ⟨by rfl, ?_⟩) (by assumption) ?_
  rotate_left
  · intro w hSw; (try dsimp only at hSw); go_simp; try (with_reducible rfl)
  try go_frame
  refine wpAnyH_take (i := 14) (oi := ⟨_, _, _, _, _, _⟩) (v := ?_) rfl (by kernel_rfl) (by kernel_rfl) (by kernel_rfl) (fun _ _ _ h => h) (Or.inl ⟨by rfl, ?_⟩) (by assumption) ?_
  rotate_left
  · intro w hSw; (try dsimp only at hSw); go_simp; try (with_reducible rfl)
  try go_frame
  refine wpAnyH_take (i := 16) (oi := ⟨_, _, _, _, _, _⟩) (v := ?_) rfl (by kernel_rfl) (by kernel_rfl) (by kernel_rfl) (fun _ _ _ h => h) (Or.inl ⟨by rfl, ?_⟩) (by assumption) ?_
  rotate_left
  · intro w hSw; (try dsimp only at hSw); go_simp; try (with_reducible rfl)
  try go_frame
  refine wpAnyH_take (i := 17) (oi := ⟨_, _, _, _, _, _⟩) (v := ?_) rfl (by kernel_rfl) (by kernel_rfl) (by kernel_rfl) (fun _ _ _ h => h) (Or.inl ⟨by rfl, ?_⟩) (by assumption) ?_
  rotate_left
  · intro w hSw; (try dsimp only at hSw); go_simp; try (with_reducible rfl)
  try go_frame
  refine wpAnyH_take (i := 18) (oi := ⟨_, _, _, _, _, _⟩) (v := ?_) rfl (by kernel_rfl) (by kernel_rfl) (by kernel_rfl) (fun _ _ _ h => h) (Or.inl ⟨by rfl, ?_⟩) (by assumption) ?_
  rotate_left
  · intro w hSw; (try dsimp only at hSw); go_simp; try (with_reducible rfl)
  try go_frame
  refine wpAnyH_take (i := 19) (oi := ⟨_, _, _, _, _, _⟩) (v := ?_) rfl (by kernel_rfl) (by kernel_rfl) (by kernel_rfl) (fun _ _ _ h => h) (Or.inl ⟨by rfl, ?_⟩) (by assumption) ?_
  rotate_left
  · intro w hSw; (try dsimp only at hSw); go_simp; try (with_reducible rfl)
  try go_frame
  refine wpAnyH_take (i := 21) (oi := ⟨_, _, _, _, _, _⟩) (v := ?_) rfl (by kernel_rfl) (by kernel_rfl) (by kernel_rfl) (fun _ _ _ h => h) (Or.inl ⟨by rfl, ?_⟩) (by assumption) ?_
  rotate_left
  · intro w hSw; (try dsimp only at hSw); go_simp; try (with_reducible rfl)
  try go_frame
  refine wpAnyH_take (i := 22) (oi := ⟨_, _, _, _, _, _⟩) (v := ?_) rfl (by kernel_rfl) (by kernel_rfl) (by kernel_rfl) (fun _ _ _ h => h) (Or.inl ⟨by rfl, ?_⟩) (by assumption) ?_
  rotate_left
  · intro w hSw; (try dsimp only at hSw); go_simp; try (with_reducible rfl)
  try go_frame
  refine wpAnyH_take (i := 23) (oi := ⟨_, _, _, _, _, _⟩) (v := ?_) rfl (by kernel_rfl) (by kernel_rfl) (by kernel_rfl) (fun _ _ _ h => h) (Or.inl ⟨by rfl, ?_⟩) (by assumption) ?_
  rotate_left
  · intro w hSw; (try dsimp only at hSw); go_simp; try (with_reducible rfl)
  try go_frame
  refine wpAnyH_take (i := 24) (oi := ⟨_, _, _, _, _, _⟩) (v := ?_) rfl (by kernel_rfl) (by kernel_rfl) (by kernel_rfl) (fun _ _ _ h => h) (Or.inl ⟨by rfl, ?_⟩) (by assumption) ?_
  rotate_left
  · intro w hSw; (try dsimp only at hSw); go_simp; try (with_reducible rfl)
  try go_frame
  refine wpAnyH_take (i := 26) (oi := ⟨_, _, _, _, _, _⟩) (v := ?_) rfl (by kernel_rfl) (by kernel_rfl) (by kernel_rfl) (fun _ _ _ h => h) (Or.inl ⟨by rfl, ?_⟩) (by assumption) ?_
  rotate_left
  · intro w hSw; (try dsimp only at hSw); go_simp; try (with_reducible rfl)
  try go_frame
  refine wpAnyH_take (i := 27) (oi := ⟨_, _, _, _, _, _⟩) (v := ?_) rfl (by kernel_rfl) (by kernel_rfl) (by kernel_rfl) (fun _ _ _ h => h) (Or.inl ⟨by rfl, ?_⟩) (by assumption) ?_
  rotate_left
  · intro w hSw; (try dsimp only at hSw); go_simp; try (with_reducible rfl)
  try go_frame
  refine wpAnyH_take (i := 28) (oi := ⟨_, _, _, _, _, _⟩) (v := ?_) rfl (by kernel_rfl) (by kernel_rfl) (by kernel_rfl) (fun _ _ _ h => h) (Or.inl ⟨by rfl, ?_⟩) (by assumption) ?_
  rotate_left
  · intro w hSw; (try dsimp only at hSw); go_simp; try (with_reducible rfl)
  try go_frame
  refine wpAnyH_take (i := 29) (oi := ⟨_, _, _, _, _, _⟩) (v := ?_) rfl (by kernel_rfl) (by kernel_rfl) (by kernel_rfl) (fun _ _ _ h => h) (Or.inl ⟨by rfl, ?_⟩) (by assumption) ?_
  rotate_left
  · intro w hSw; (try dsimp only at hSw); go_simp; try (with_reducible rfl)
  try go_frame
  refine wpAnyH_take (i := 30) (oi := ⟨_, _, _, _, _, _⟩) (v := ?_) rfl (by kernel_rfl) (by kernel_rfl) (by kernel_rfl) (fun _ _ _ h => h) (Or.inl ⟨by rfl, ?_⟩) (by assumption) ?_
  rotate_left
  · intro w hSw; (try dsimp only at hSw); go_simp; try (with_reducible rfl)
  try go_frame
  refine wpAnyH_take (i := 32) (oi := ⟨_, _, _, _, _, _⟩) (v := ?_) rfl (by kernel_rfl) (by kernel_rfl) (by kernel_rfl) (fun _ _ _ h => h) (Or.inl ⟨by rfl, ?_⟩) (by assumption) ?_
  rotate_left
  · intro w hSw; (try dsimp only at hSw); go_simp; try (with_reducible rfl)
  try go_frame
  refine wpAnyH_take (i := 33) (oi := ⟨_, _, _, _, _, _⟩) (v := ?_) rfl (by kernel_rfl) (by kernel_rfl) (by kernel_rfl) (fun _ _ _ h => h) (Or.inl ⟨by rfl, ?_⟩) (by assumption) ?_
  rotate_left
  · intro w hSw; (try dsimp only at hSw); go_simp; try (with_reducible rfl)
  try go_frame
  refine wpAnyH_ready (rs := [4]) (by kernel_rfl) (by simp) ?_
  refine ready_cons (i := 4) (o := ⟨_, _, _, _, _, _⟩) rfl ?_ AllReadyH.nil
  intro K hK
  refine call_step (f := 55) (args := #[.pointer (some ⟨D.ub, 0, none⟩)]) rfl (by kernel_rfl) ?_
  refine (busy_bul D.ub D.f T.bul wd DD.out.bul).mono ?_
  rintro r wz ⟨rfl, hz⟩
  rw [← hz]
  clear hz wz
  refine ⟨_, rfl, ?_⟩
  refine hK.out _ _ hHeld (fun hHeld => ?_)
  clear hK K
  try go_frame
  refine wpAnyH_ready (rs := [9]) (by kernel_rfl) (by simp) ?_
  refine ready_cons (i := 9) (o := ⟨_, _, _, _, _, _⟩) rfl ?_ AllReadyH.nil
  intro K hK
  refine call_step (f := 56) (args := #[.pointer (some ⟨D.ub, 0, none⟩)]) rfl (by kernel_rfl) ?_
  refine (waiting_bul D.ub D.f T.bul wd DD.out.bul).mono ?_
  rintro r w4 ⟨v4, rfl, i4, b4⟩
  obtain ⟨A4, n4, e4, rfl, _, hn4, _, _⟩ := own_row' i4
  have HN4 : Hid (n4 = T.bul.wait.length) := Lib.hid hn4.out.symm
  clear i4
  refine ⟨_, rfl, ?_⟩
  have D4 := Lib.hid (DD.out.below b4)
  have K4 := Lib.hid (kb_below KD.out b4)
  have F4 := Lib.hid (FD.out.then_below b4)
  refine hK.out _ _ (SS.out w4 T rfl D4.out) (fun hHeld => ?_)
  clear hK K b4
  try go_frame
  refine wpAnyH_take (i := 10) (oi := ⟨_, _, _, _, _, _⟩) (v := ?_) rfl (by kernel_rfl) (by kernel_rfl) (by kernel_rfl) (fun _ _ _ h => h) (Or.inl ⟨by rfl, ?_⟩) (by assumption) ?_
  rotate_left
  · intro w hSw; (try dsimp only at hSw); go_simp; try (with_reducible rfl)
  try go_frame
  refine wpAnyH_ready (rs := [15]) (by kernel_rfl) (by simp) ?_
  refine ready_cons (i := 15) (o := ⟨_, _, _, _, _, _⟩) rfl ?_ AllReadyH.nil
  intro K hK
  refine call_step (f := 57) (args := #[.pointer (some ⟨D.fb, 0, none⟩)]) rfl (by kernel_rfl) ?_
  refine (used_prm D.fb D.fm c.fbMax.toNat T.fb w4 D4.out.fal).mono ?_
  rintro r wz ⟨rfl, hz⟩
  rw [hz]
  clear hz wz
  refine ⟨_, rfl, ?_⟩
  refine hK.out _ _ hHeld (fun hHeld => ?_)
  clear hK K
  try go_frame
  refine wpAnyH_ready (rs := [20]) (by kernel_rfl) (by simp) ?_
  refine ready_cons (i := 20) (o := ⟨_, _, _, _, _, _⟩) rfl ?_ AllReadyH.nil
  intro K hK
  have hlen := D4.out.clen
  constructor
  go_simp
  refine hK.out _ _ hHeld (fun hHeld => ?_)
  clear hK K hlen
  try go_frame
  refine wpAnyH_ready (rs := [25]) (by kernel_rfl) (by simp) ?_
  refine ready_cons (i := 25) (o := ⟨_, _, _, _, _, _⟩) rfl ?_ AllReadyH.nil
  intro K hK
  refine call_step (f := 58) (args := #[.pointer (some ⟨D.kb, 0, none⟩)]) rfl (by kernel_rfl) ?_
  refine (state_brk D.kb T.brk w4 D4.out.brk).mono ?_
  rintro r wz ⟨rfl, hz⟩
  rw [hz]
  clear hz wz
  refine ⟨_, rfl, ?_⟩
  refine hK.out _ _ hHeld (fun hHeld => ?_)
  clear hK K
  try go_frame
  refine wpAnyH_ready (rs := [31]) (by kernel_rfl) (by simp) ?_
  refine ready_cons (i := 31) (o := ⟨_, _, _, _, _, _⟩) rfl ?_ AllReadyH.nil
  intro K hK
  refine call_step (f := 59) (args := #[.pointer (some ⟨D.wb, 0, none⟩), .int .u64 now]) rfl (by kernel_rfl) ?_
  refine (counts_win D.wb c.B c.W T.wt now T.wF w4 D4.out.win hn).mono ?_
  rintro r w5 ⟨rfl, f5, x5⟩
  refine ⟨_, rfl, ?_⟩
  have D5 : Hid (DepM w5 D (NU N w) c (T.seeW c now)) := Lib.hid (D4.out.win1 f5 x5)
  have K5 := Lib.hid ((f5.block g (heap_lt K4.out) (fun e => NL.out g (Nat.le_refl _) (.inl e))).trans K4.out)
  have F5 : Hid (Frm D.L w w5) := Lib.hid (F4.out.trans (f5.mono (F' := D.L) (fun j _ e => .inl e)) (fun _ _ h => h))
  have hc5 : w5.cell? ⟨D.db, 0, none⟩ = some (.pointer (some ⟨D.kb, 0, none⟩)) ∧ w5.cell? ⟨D.db, 1, none⟩ = some (.pointer (some ⟨D.ub, 0, none⟩)) ∧ w5.cell? ⟨D.db, 18, none⟩ = some (.pointer (some ⟨D.wb, 0, none⟩)) ∧ w5.cell? ⟨D.db, 20, none⟩ = some (.pointer (some ⟨D.fb, 0, none⟩)) ∧ w5.cell? ⟨D.db, 21, none⟩ = some (.map (some D.cm)) := by obtain ⟨e0, e1, e18, _, e20, e21, _⟩ := dobj_cells D5.out.blk; exact ⟨e0, e1, e18, e20, e21⟩
  refine hK.out _ _ hc5 (fun hHeld => ?_)
  clear hK K f5 x5
  try go_frame
  refine wpAnyH_take (i := 34) (oi := ⟨_, _, _, _, _, _⟩) (v := .agg (aggV (snapL ⟨T.bul.run.length, n4, T.fb.length, T.cs.length, T.brk.state, (T.seeW c now).cntOf c, half, all⟩))) rfl (by kernel_rfl) (by kernel_rfl) (by kernel_rfl) (fun _ _ _ h => h) (Or.inl ⟨by rfl, fun wx _ => by kernel_rfl⟩) (by assumption) ?_
  try go_frame
  have HSE : Hid ((⟨T.bul.run.length, n4, T.fb.length, T.cs.length, T.brk.state, (T.seeW c now).cntOf c, half, all⟩ : SN) = s) := Lib.hid (by rw [HS.out, HN4.out, ← HHF.out, ← HAL.out, HT.out]; rfl)
  rw [HSE.out]
  refine wpAnyH_ready (rs := [35]) (by kernel_rfl) (by simp) ?_
  refine ready_cons (i := 35) (o := ⟨_, _, _, _, _, _⟩) rfl ?_ AllReadyH.nil
  intro K hK
  refine store_step rfl 75 _ _ rfl g 0 75 (snapL zeroSn) (snapL s) rfl rfl K5.out (by show 0 + 12 ≤ 12; decide) (sizeSn _) (onesSn _) ?_
  intro w6 k6 f6 _
  have K6 : Hid (w6.heap[g]? = some (vobj 75 (snapL s))) := Lib.hid k6
  have F6 := Lib.hid f6
  have h6c := D5.out.frm1 F6.out (.inr (by omega)) (ty_cells K5.out) (by decide) (by decide) (by decide) (by decide) (by decide) (by decide) (by decide)
  have hc6 : w6.cell? ⟨D.db, 0, none⟩ = some (.pointer (some ⟨D.kb, 0, none⟩)) ∧ w6.cell? ⟨D.db, 1, none⟩ = some (.pointer (some ⟨D.ub, 0, none⟩)) ∧ w6.cell? ⟨D.db, 18, none⟩ = some (.pointer (some ⟨D.wb, 0, none⟩)) ∧ w6.cell? ⟨D.db, 20, none⟩ = some (.pointer (some ⟨D.fb, 0, none⟩)) ∧ w6.cell? ⟨D.db, 21, none⟩ = some (.map (some D.cm)) := by obtain ⟨e0, e1, e18, _, e20, e21, _⟩ := dobj_cells h6c.blk; exact ⟨e0, e1, e18, e20, e21⟩
  refine hK.out _ _ hc6 (fun hHeld => ?_)
  clear h6c
  clear hK K k6 f6
  try go_frame
  refine wpAnyH_done (by kernel_rfl) ?_ _
  go_wp2
  refine bodyPost_ret (v := .agg (aggV (snapL s))) (results_agg Tryz.results22 rfl (loadSn K6.out)) rfl ?_
  have h6 : DepM w6 D (NU N w) c (T.seeW c now) := D5.out.frm1 F6.out (.inr (by omega)) (ty_cells K5.out) (by decide) (by decide) (by decide) (by decide) (by decide) (by decide) (by decide)
  refine ⟨rfl, ?_, F5.out.trans F6.out (fun j hj e => by have e' : j = g := e; exfalso; omega)⟩
  have h7 : DepM w6 D (NU N w) c (S.look c now) := by rw [HT.out] at h6; exact h6
  exact h7.grow (fun j hj => .inl (.inl hj.1)) (fun j hj => ⟨H.out.inN j hj, H.out.old hj⟩)
end Go.Proofs.YtgnccpmkdgfjeaaGreat

namespace Go.Proofs.YtgnccpmkdgfjeaaGreat
set_option linter.unusedVariables false
set_option maxRecDepth 100000
open Go.ChangeShapes Go.WideShapes Go.ChangeAt Go.RowKit

/-- A dependency and what stays of it; its blocks lie below lo. -/
structure Live (w : World) (D : DB) (lo : Nat) (c : Cnf) (S : DS) : Prop where
  dep : DepM w D D.F c S
  ok : DS.Ok c S
  low : ∀ j, D.F j → j < lo
  size : lo ≤ w.heap.size
/-- A result in a variable: block g; its rows are new since there were lo blocks. -/
def ResX (w : World) (lo g : Nat) (L : List DA) (O : List Ot) : Prop := ∃ A n e P q f, w.heap[g]? = some (resO (.slice A n e) (.slice P q f)) ∧ RowR arec w A n L ∧ RowR orec w P q O ∧ Fresh lo A ∧ Fresh lo P ∧ lo ≤ g
section
variable {w w' : World} {D : DB} {lo g : Nat} {c : Cnf} {S S' : DS} {L : List DA} {O : List Ot}
theorem Live.below (h : Live w D lo c S) (hb : Below w.heap.size w w') : Live w' D lo c S := ⟨h.dep.below hb, h.ok, h.low, Nat.le_trans h.size hb.size⟩
theorem Live.fine (h : Live w D lo c S) (hl : S.cs.length ≤ 1000) : S.Fine c := h.ok.fine h.dep.uni hl
theorem Live.next (h : Live w D lo c S) (hd : DepM w' D (NB D.F w) c S') (hs : w.heap.size ≤ w'.heap.size) (ho : DS.Ok c S') : Live w' D lo c S' := ⟨hd.grow (fun j hj => .inl ⟨hj, h.dep.old hj⟩) (fun _ hj => hj), ho, h.low, Nat.le_trans h.size hs⟩
theorem ResX.below (h : ResX w lo g L O) (hb : Below w.heap.size w w') : ResX w' lo g L O := by
  obtain ⟨A, n, e, P, q, f, h1, h2, h3, h4, h5, h6⟩ := h
  exact ⟨A, n, e, P, q, f, kb_below h1 hb, h2.later hb, h3.later hb, h4, h5, h6⟩
theorem ResX.kept (h : ResX w lo g L O) (hl : ∀ j, D.F j → j < lo) (hf : Frm D.F w w') : ResX w' lo g L O := by
  obtain ⟨A, n, e, P, q, f, h1, h2, h3, h4, h5, h6⟩ := h
  exact ⟨A, n, e, P, q, f, (hf.block g (heap_lt h1) (fun hc => by have := hl g hc; omega)).trans h1,
    h2.apart hf (fun b off e _ hc => by have := hl b hc; have := h4 b off e; omega), h3.apart hf (fun b off e _ hc => by have := hl b hc; have := h5 b off e; omega), h4, h5, h6⟩
/-- A result is put into a new variable. -/
theorem ResX.put {A P : Option Addr} {n e q f : Nat} (h2 : RowR arec w A n L) (h3 : RowR orec w P q O) (h4 : Fresh lo A) (h5 : Fresh lo P) (h6 : lo ≤ w.heap.size) (hg : w.heap.size = g) (hb : Below w.heap.size w w') (hk : w'.heap[g]? = some (resO (.slice A n e) (.slice P q f))) : ResX w' lo g L O :=
  ⟨A, n, e, P, q, f, hk, h2.later hb, h3.later hb, h4, h5, by omega⟩
theorem Live.offer (h : Live w D lo c S) (hl : S.cs.length ≤ 1000) (now : Nat) (hn : now ≤ 18446744073709551615) {A M : Option Addr} {n e m d : Nat} {zs : List Int} {ms : List P2} (hb : Bat w A n e M m d zs ms) (h1 : n ≤ 1000) (h2 : m ≤ 1000) : DS.Ok c (S.offer c now zs ms).S :=
  h.ok.offer h.dep.uni h.dep.bul.ok now hn zs ms (by rw [hb.alen]; exact h1) (by rw [hb.mlen]; exact h2)
end
def c17 : Cnf := ⟨1, 1, 1, 0, 0, 0, 10, 5, 9, 50, 0, 2, 10, 0, 0, 0⟩
def a1 : DR := (DS.new c17).offer c17 0 [5] [⟨1, 0⟩]
def a2 : DR := a1.S.offer c17 1 [6] [⟨2, 0⟩]
def a3 : DR := a2.S.offer c17 2 [7] [⟨3, 0⟩]
def a4 : DR := a3.S.late c17 10 1
def a5 : DR := a4.S.late c17 11 2
def a6 : DR := a5.S.answer c17 20 1 true [9]
def s17 : SN := (a6.S.look c17 20).snap c17
theorem c17_fits : c17.Fits := by
  constructor <;> (unfold c17; decide)
theorem c17_bad : c17.bad = 0 := by kernel_rfl
theorem a1_er : a1.er = 0 := by kernel_rfl
theorem a2_er : a2.er = 0 := by kernel_rfl
theorem a3_er : a3.er = 0 := by kernel_rfl
theorem a6_er : a6.er = 0 := by kernel_rfl
theorem a1_acts : a1.acts = [⟨true, 1, 10⟩] := by kernel_rfl
theorem a2_acts : a2.acts.length = 1 := by kernel_rfl
theorem a3_outs : a3.outs.map Ot.cause = [3] := by kernel_rfl
theorem a4_outs : a4.outs.length = 1 := by kernel_rfl
theorem a5_outs : a5.outs.length = 1 := by kernel_rfl
theorem a6_outs : a6.outs.length = 0 := by kernel_rfl
theorem s17_busy : s17.busy = 0 := by kernel_rfl
theorem s17_calls : s17.calls = 0 := by kernel_rfl
theorem s17_cnt : s17.cnt = ⟨0, 0, 2, 0, 0⟩ := by kernel_rfl
theorem a_len : a1.S.cs.length ≤ 1000 ∧ a2.S.cs.length ≤ 1000 ∧ a3.S.cs.length ≤ 1000 ∧ a4.S.cs.length ≤ 1000 ∧ a5.S.cs.length ≤ 1000 := by
  have h1 : a1.S.cs.length = 1 := by kernel_rfl
  have h2 : a2.S.cs.length = 2 := by kernel_rfl
  have h3 : a3.S.cs.length = 2 := by kernel_rfl
  have h4 : a4.S.cs.length = 2 := by kernel_rfl
  have h5 : a5.S.cs.length = 1 := by kernel_rfl
  omega
theorem allocBa (w : World) : (Instr.alloc 91 true (.tuple #[])).run Tryz.prog w = .ok (.pointer (some ⟨w.heap.size, 0, none⟩)) (w.alloc (bobj 91 none 0 0 none 0 0)) := by kernel_rfl
set_option maxHeartbeats 1000000 in
theorem one17_any (id x : Int) (hi : wf64 id) (w : World) : Calls Tryz.prog 30 #[.int .i64 id, .int .i64 x] w fun r w' => ∃ A c M d, r = .returned (batV A 1 c M 1 d) ∧ Bat w' A 1 c M 1 d [x] [⟨id, 0⟩] ∧ Below w.heap.size w w' := by
  obtain ⟨g, hg⟩ : ∃ g, w.heap.size = g := ⟨_, rfl⟩
  go_enter Tryz.func30, Tryz.ntmps30
  go_wp2_with (first
    | (refine wpList_alloc_agg rfl 91 rfl g hg [.slice none 0 0, .slice none 0 0] (allocBa _) ?_; intro w1 k1 l1 s1; have K1 := Lib.hid k1; have L1 : Hid (Below w.heap.size w w1) := Lib.hid (by rw [hg]; exact l1); clear k1 l1)
    | (go_at_call 76; refine (bone_any id x hi w1).mono ?_; rintro r w2 ⟨A, c, M, d, rfl, h2, _, l2⟩; have L2 : Hid (Below w.heap.size w w2) := Lib.hid (L1.out.trans (l2.mono L1.out.size)); have K2 := Lib.hid (kb_below K1.out l2); have H2 := Lib.hid h2; clear h2 l2)
    | (refine wpList_store_agg rfl 91 _ _ rfl g [.slice none 0 0, .slice none 0 0] [.slice A 1 c, .slice M 1 d] rfl rfl ?hz rfl sizeB (onesB _ _ _ _ _ _) ?_; (case hz => exact K2.out); intro w3 k3 f3 _; have K3 := Lib.hid k3; have F3 := Lib.hid f3; clear k3 f3))
  refine bodyPost_ret (v := batV A 1 c M 1 d) (results_agg Tryz.results30 rfl (loadB K3.out)) rfl ?_
  have k2 : w2.heap[g]? = some (bobj 91 none 0 0 none 0 0) := K2.out
  exact ⟨A, c, M, d, rfl, ⟨H2.out.ar.stayI F3.out k2, H2.out.mr.stayP F3.out k2, H2.out.nc, H2.out.md, H2.out.fits⟩, L2.out.trans (F3.out.below L2.out.size (fun j hj e => by have e' : j = g := e; omega))⟩
end Go.Proofs.YtgnccpmkdgfjeaaGreat

namespace Go.Proofs.YtgnccpmkdgfjeaaGreat
set_option linter.unusedVariables false
set_option maxRecDepth 100000
open Go.ChangeShapes Go.WideShapes Go.ChangeAt Go.RowKit

theorem res_cells {w : World} {g : Nat} {v o : Value} (h : w.heap[g]? = some (resO v o)) : w.cell? ⟨g, 0, none⟩ = some v ∧ w.cell? ⟨g, 1, none⟩ = some o := ⟨vobj_cell h rfl, vobj_cell h rfl⟩
theorem s17_range {w : World} {g : Nat} (h : w.heap[g]? = some (vobj 75 (snapL s17))) : w.rangeAt g 5 [.int .u64 0, .int .u64 0, .int .u64 2, .int .u64 0, .int .u64 0] := by
  have hr := vobj_range h
  intro j u hu
  have h2 := hr (5 + j) u (by
    have e : (snapL s17).drop 5 = [.int .u64 s17.cnt.c0, .int .u64 s17.cnt.c1, .int .u64 s17.cnt.c2, .int .u64 s17.cnt.c3, .int .u64 s17.cnt.c4, .int .u64 s17.half, .int .u64 s17.all] := rfl
    rw [s17_cnt] at e
    rw [← List.getElem?_drop, e]
    match j, hu with
    | 0, hu => exact hu
    | 1, hu => exact hu
    | 2, hu => exact hu
    | 3, hu => exact hu
    | 4, hu => exact hu)
  rw [Nat.zero_add] at h2
  exact h2
theorem sameA1 (w : World) : (Op.equalIn 10000 99 (.agg #[.bool true, .int .i64 1, .int .u64 10]) (.agg #[.bool true, .int .i64 1, .int .u64 10])).run Tryz.prog w = .ok true w := by kernel_rfl
theorem sameC1 (w : World) : (Op.equalIn 10000 67 (.agg #[.int .u64 0, .int .u64 0, .int .u64 2, .int .u64 0, .int .u64 0]) (.agg #[.int .u64 0, .int .u64 0, .int .u64 2, .int .u64 0, .int .u64 0])).run Tryz.prog w = .ok true w := by kernel_rfl
set_option maxHeartbeats 8000000 in
theorem awake17_any (w : World) : Calls Tryz.prog 10 #[] w fun r w' => r = .returned (.bool true) ∧ Below w.heap.size w w' := by
  obtain ⟨fr, hur⟩ := undRs
  have HUR := Lib.hid hur
  clear hur
  go_enter Tryz.func10, Tryz.ntmps10
  go_wp2_with fail
  have hn := new_dep c17 w c17_fits c17_bad
  rw [show (aggV c17.vals) = #[.int .i64 1, .int .i64 1, .int .i64 1, .int .i64 0, .int .i64 0, .int .i64 0, .int .u64 10, .int .u64 5, .int .i64 9, .int .i64 50, .int .u64 0, .int .i64 2, .int .u64 10, .int .u64 0, .int .i64 0, .int .i64 0] from rfl] at hn
  refine hn.mono ?_
  clear hn
  rintro r w0 ⟨D, rfl, hd, hb, hlo⟩
  unfold ptr
  have LV0 : Hid (Live w0 D w0.heap.size c17 (DS.new c17)) := Lib.hid ⟨hd, DS.new_ok c17_fits c17_bad, fun j hj => hd.old hj, Nat.le_refl _⟩
  obtain ⟨lo, hl⟩ : ∃ lo, w0.heap.size = lo := ⟨_, rfl⟩
  rw [hl] at LV0
  have B0 : Hid (Below w.heap.size w w0) := Lib.hid hb
  have FL : Hid (∀ j, D.F j → w.heap.size ≤ j) := Lib.hid hlo
  have WL : Hid (w.heap.size ≤ lo) := Lib.hid (by rw [← hl]; exact hb.size)
  have AL := Lib.hid a_len
  clear hd hb hlo hl
  -- offer 1
  try go_wp2_with fail
  refine (one17_any 1 5 (wf64_lit (k := 1) (by decide) (by decide)) w0).mono ?_
  rintro r w1 ⟨A, e, M, d, rfl, hb, b1⟩
  have LV1 : Hid (Live w1 D lo c17 (DS.new c17)) := Lib.hid (LV0.out.below b1)
  have B1 : Hid (Below w.heap.size w w1) := Lib.hid (B0.out.trans (b1.mono B0.out.size))
  clear b1 LV0 B0
  have HB := Lib.hid hb
  clear hb
  try go_wp2_with fail
  refine (offer_any D D.F c17 (DS.new c17) 0 A 1 e M 1 d [5] [⟨1, 0⟩] w1 LV1.out.dep (LV1.out.fine (by decide)) HB.out (by decide) (by decide) (by decide)).mono ?_
  rintro r w2 ⟨⟨rv, rfl, rv2⟩, h2, fm2⟩
  have oo : DS.Ok c17 a1.S := LV1.out.offer (by decide) 0 (by decide) HB.out (by decide) (by decide)
  change DepM w2 D _ c17 a1.S at h2
  change ResV w2 _ rv a1.acts a1.outs at rv2
  rw [show (((DS.new c17)).offer c17 0 [5] [⟨1, 0⟩]).er = 0 from a1_er]
  obtain ⟨A2, n2, e2, P2, q2, f2, rfl, ra2, ro2, fa2, fo2⟩ := rv2
  have LV2 : Hid (Live w2 D lo c17 a1.S) := Lib.hid (LV1.out.next h2 fm2.size oo)
  replace fa2 := fa2.mono LV1.out.size
  replace fo2 := fo2.mono LV1.out.size
  have B2 : Hid (Below w.heap.size w w2) := Lib.hid (B1.out.trans (fm2.below B1.out.size (fun j hj hc => by have := FL.out j hc; omega)))
  clear h2 fm2 LV1 B1
  clear oo HB
  obtain ⟨g1, hg1⟩ : ∃ g, w2.heap.size = g := ⟨_, rfl⟩
  go_wp2_with (first
    | (refine wpList_alloc_agg rfl 57 rfl g1 hg1 [.slice none 0 0, .slice none 0 0] (allocRs _) ?_; intro w3 k3 l3 s3)
    | (refine wpList_store_agg rfl 57 _ _ rfl g1 [.slice none 0 0, .slice none 0 0] [.slice A2 n2 e2, .slice P2 q2 f2] rfl rfl ?hz rfl sizeRs (onesRs _ _ _ _ _ _) ?_; (case hz => exact k3); intro w4 k4 ff4 z4))
  have bb : Below w2.heap.size w2 w4 := (show Below w2.heap.size w2 w3 by rw [hg1]; exact l3).trans (ff4.below l3.size (fun j hj e => by have e' : j = g1 := e; omega))
  have LV4 : Hid (Live w4 D lo c17 a1.S) := Lib.hid (LV2.out.below bb)
  have B4 : Hid (Below w.heap.size w w4) := Lib.hid (B2.out.trans (bb.mono B2.out.size))
  have X1_4 : Hid (ResX w4 lo g1 a1.acts a1.outs) := Lib.hid (ResX.put ra2 ro2 fa2 fo2 LV2.out.size hg1 bb k4)
  clear bb k3 l3 s3 k4 ff4 z4 ra2 ro2 fa2 fo2 LV2 B2
  -- offer 2
  try go_wp2_with fail
  refine (one17_any 2 6 (wf64_lit (k := 2) (by decide) (by decide)) w4).mono ?_
  rintro r w5 ⟨A, e, M, d, rfl, hb, b5⟩
  have LV5 : Hid (Live w5 D lo c17 a1.S) := Lib.hid (LV4.out.below b5)
  have B5 : Hid (Below w.heap.size w w5) := Lib.hid (B4.out.trans (b5.mono B4.out.size))
  have X1_5 : Hid (ResX w5 lo g1 a1.acts a1.outs) := Lib.hid (X1_4.out.below b5)
  clear X1_4
  clear b5 LV4 B4
  have HB := Lib.hid hb
  clear hb
  try go_wp2_with fail
  refine (offer_any D D.F c17 a1.S 1 A 1 e M 1 d [6] [⟨2, 0⟩] w5 LV5.out.dep (LV5.out.fine AL.out.1) HB.out (by decide) (by decide) (by decide)).mono ?_
  rintro r w6 ⟨⟨rv, rfl, rv6⟩, h6, fm6⟩
  have oo : DS.Ok c17 a2.S := LV5.out.offer AL.out.1 1 (by decide) HB.out (by decide) (by decide)
  change DepM w6 D _ c17 a2.S at h6
  change ResV w6 _ rv a2.acts a2.outs at rv6
  rw [show ((a1.S).offer c17 1 [6] [⟨2, 0⟩]).er = 0 from a2_er]
  obtain ⟨A6, n6, e6, P6, q6, f6, rfl, ra6, ro6, fa6, fo6⟩ := rv6
  have LV6 : Hid (Live w6 D lo c17 a2.S) := Lib.hid (LV5.out.next h6 fm6.size oo)
  replace fa6 := fa6.mono LV5.out.size
  replace fo6 := fo6.mono LV5.out.size
  have B6 : Hid (Below w.heap.size w w6) := Lib.hid (B5.out.trans (fm6.below B5.out.size (fun j hj hc => by have := FL.out j hc; omega)))
  have X1_6 : Hid (ResX w6 lo g1 a1.acts a1.outs) := Lib.hid (X1_5.out.kept LV5.out.low fm6)
  clear X1_5
  clear h6 fm6 LV5 B5
  clear oo HB
  obtain ⟨g2, hg2⟩ : ∃ g, w6.heap.size = g := ⟨_, rfl⟩
  go_wp2_with (first
    | (refine wpList_alloc_agg rfl 57 rfl g2 hg2 [.slice none 0 0, .slice none 0 0] (allocRs _) ?_; intro w7 k7 l7 s7)
    | (refine wpList_store_agg rfl 57 _ _ rfl g2 [.slice none 0 0, .slice none 0 0] [.slice A6 n6 e6, .slice P6 q6 f6] rfl rfl ?hz rfl sizeRs (onesRs _ _ _ _ _ _) ?_; (case hz => exact k7); intro w8 k8 ff8 z8))
  have bb : Below w6.heap.size w6 w8 := (show Below w6.heap.size w6 w7 by rw [hg2]; exact l7).trans (ff8.below l7.size (fun j hj e => by have e' : j = g2 := e; omega))
  have LV8 : Hid (Live w8 D lo c17 a2.S) := Lib.hid (LV6.out.below bb)
  have B8 : Hid (Below w.heap.size w w8) := Lib.hid (B6.out.trans (bb.mono B6.out.size))
  have X2_8 : Hid (ResX w8 lo g2 a2.acts a2.outs) := Lib.hid (ResX.put ra6 ro6 fa6 fo6 LV6.out.size hg2 bb k8)
  have X1_8 : Hid (ResX w8 lo g1 a1.acts a1.outs) := Lib.hid (X1_6.out.below bb)
  clear X1_6
  clear bb k7 l7 s7 k8 ff8 z8 ra6 ro6 fa6 fo6 LV6 B6
  -- offer 3
  try go_wp2_with fail
  refine (one17_any 3 7 (wf64_lit (k := 3) (by decide) (by decide)) w8).mono ?_
  rintro r w9 ⟨A, e, M, d, rfl, hb, b9⟩
  have LV9 : Hid (Live w9 D lo c17 a2.S) := Lib.hid (LV8.out.below b9)
  have B9 : Hid (Below w.heap.size w w9) := Lib.hid (B8.out.trans (b9.mono B8.out.size))
  have X1_9 : Hid (ResX w9 lo g1 a1.acts a1.outs) := Lib.hid (X1_8.out.below b9)
  have X2_9 : Hid (ResX w9 lo g2 a2.acts a2.outs) := Lib.hid (X2_8.out.below b9)
  clear X1_8 X2_8
  clear b9 LV8 B8
  have HB := Lib.hid hb
  clear hb
  try go_wp2_with fail
  refine (offer_any D D.F c17 a2.S 2 A 1 e M 1 d [7] [⟨3, 0⟩] w9 LV9.out.dep (LV9.out.fine AL.out.2.1) HB.out (by decide) (by decide) (by decide)).mono ?_
  rintro r w10 ⟨⟨rv, rfl, rv10⟩, h10, fm10⟩
  have oo : DS.Ok c17 a3.S := LV9.out.offer AL.out.2.1 2 (by decide) HB.out (by decide) (by decide)
  change DepM w10 D _ c17 a3.S at h10
  change ResV w10 _ rv a3.acts a3.outs at rv10
  rw [show ((a2.S).offer c17 2 [7] [⟨3, 0⟩]).er = 0 from a3_er]
  obtain ⟨A10, n10, e10, P10, q10, f10, rfl, ra10, ro10, fa10, fo10⟩ := rv10
  have LV10 : Hid (Live w10 D lo c17 a3.S) := Lib.hid (LV9.out.next h10 fm10.size oo)
  replace fa10 := fa10.mono LV9.out.size
  replace fo10 := fo10.mono LV9.out.size
  have B10 : Hid (Below w.heap.size w w10) := Lib.hid (B9.out.trans (fm10.below B9.out.size (fun j hj hc => by have := FL.out j hc; omega)))
  have X1_10 : Hid (ResX w10 lo g1 a1.acts a1.outs) := Lib.hid (X1_9.out.kept LV9.out.low fm10)
  have X2_10 : Hid (ResX w10 lo g2 a2.acts a2.outs) := Lib.hid (X2_9.out.kept LV9.out.low fm10)
  clear X1_9 X2_9
  clear h10 fm10 LV9 B9
  clear oo HB
  obtain ⟨g3, hg3⟩ : ∃ g, w10.heap.size = g := ⟨_, rfl⟩
  go_wp2_with (first
    | (refine wpList_alloc_agg rfl 57 rfl g3 hg3 [.slice none 0 0, .slice none 0 0] (allocRs _) ?_; intro w11 k11 l11 s11)
    | (refine wpList_store_agg rfl 57 _ _ rfl g3 [.slice none 0 0, .slice none 0 0] [.slice A10 n10 e10, .slice P10 q10 f10] rfl rfl ?hz rfl sizeRs (onesRs _ _ _ _ _ _) ?_; (case hz => exact k11); intro w12 k12 ff12 z12))
  have bb : Below w10.heap.size w10 w12 := (show Below w10.heap.size w10 w11 by rw [hg3]; exact l11).trans (ff12.below l11.size (fun j hj e => by have e' : j = g3 := e; omega))
  have LV12 : Hid (Live w12 D lo c17 a3.S) := Lib.hid (LV10.out.below bb)
  have B12 : Hid (Below w.heap.size w w12) := Lib.hid (B10.out.trans (bb.mono B10.out.size))
  have X3_12 : Hid (ResX w12 lo g3 a3.acts a3.outs) := Lib.hid (ResX.put ra10 ro10 fa10 fo10 LV10.out.size hg3 bb k12)
  have X1_12 : Hid (ResX w12 lo g1 a1.acts a1.outs) := Lib.hid (X1_10.out.below bb)
  have X2_12 : Hid (ResX w12 lo g2 a2.acts a2.outs) := Lib.hid (X2_10.out.below bb)
  clear X1_10 X2_10
  clear bb k11 l11 s11 k12 ff12 z12 ra10 ro10 fa10 fo10 LV10 B10
  -- late 4
  try go_wp2_with fail
  refine (late_any D D.F c17 a3.S 10 1 w12 LV12.out.dep (LV12.out.fine AL.out.2.2.1) (wf64_lit (k := 1) (by decide) (by decide)) (by decide)).mono ?_
  rintro r w13 ⟨⟨rv, rfl, rv13⟩, h13, fm13⟩
  have oo : DS.Ok c17 a4.S := LV12.out.ok.late LV12.out.dep.uni LV12.out.dep.bul.ok 10 (by decide) 1
  change DepM w13 D _ c17 a4.S at h13
  change ResV w13 _ rv a4.acts a4.outs at rv13
  obtain ⟨A13, n13, e13, P13, q13, f13, rfl, ra13, ro13, fa13, fo13⟩ := rv13
  have LV13 : Hid (Live w13 D lo c17 a4.S) := Lib.hid (LV12.out.next h13 fm13.size oo)
  replace fa13 := fa13.mono LV12.out.size
  replace fo13 := fo13.mono LV12.out.size
  have B13 : Hid (Below w.heap.size w w13) := Lib.hid (B12.out.trans (fm13.below B12.out.size (fun j hj hc => by have := FL.out j hc; omega)))
  have X1_13 : Hid (ResX w13 lo g1 a1.acts a1.outs) := Lib.hid (X1_12.out.kept LV12.out.low fm13)
  have X2_13 : Hid (ResX w13 lo g2 a2.acts a2.outs) := Lib.hid (X2_12.out.kept LV12.out.low fm13)
  have X3_13 : Hid (ResX w13 lo g3 a3.acts a3.outs) := Lib.hid (X3_12.out.kept LV12.out.low fm13)
  clear X1_12 X2_12 X3_12
  clear h13 fm13 LV12 B12
  clear oo
  obtain ⟨g4, hg4⟩ : ∃ g, w13.heap.size = g := ⟨_, rfl⟩
  go_wp2_with (first
    | (refine wpList_alloc_agg rfl 57 rfl g4 hg4 [.slice none 0 0, .slice none 0 0] (allocRs _) ?_; intro w14 k14 l14 s14)
    | (refine wpList_store_agg rfl 57 _ _ rfl g4 [.slice none 0 0, .slice none 0 0] [.slice A13 n13 e13, .slice P13 q13 f13] rfl rfl ?hz rfl sizeRs (onesRs _ _ _ _ _ _) ?_; (case hz => exact k14); intro w15 k15 ff15 z15))
  have bb : Below w13.heap.size w13 w15 := (show Below w13.heap.size w13 w14 by rw [hg4]; exact l14).trans (ff15.below l14.size (fun j hj e => by have e' : j = g4 := e; omega))
  have LV15 : Hid (Live w15 D lo c17 a4.S) := Lib.hid (LV13.out.below bb)
  have B15 : Hid (Below w.heap.size w w15) := Lib.hid (B13.out.trans (bb.mono B13.out.size))
  have X4_15 : Hid (ResX w15 lo g4 a4.acts a4.outs) := Lib.hid (ResX.put ra13 ro13 fa13 fo13 LV13.out.size hg4 bb k15)
  have X1_15 : Hid (ResX w15 lo g1 a1.acts a1.outs) := Lib.hid (X1_13.out.below bb)
  have X2_15 : Hid (ResX w15 lo g2 a2.acts a2.outs) := Lib.hid (X2_13.out.below bb)
  have X3_15 : Hid (ResX w15 lo g3 a3.acts a3.outs) := Lib.hid (X3_13.out.below bb)
  clear X1_13 X2_13 X3_13
  clear bb k14 l14 s14 k15 ff15 z15 ra13 ro13 fa13 fo13 LV13 B13
  -- late 5
  try go_wp2_with fail
  refine (late_any D D.F c17 a4.S 11 2 w15 LV15.out.dep (LV15.out.fine AL.out.2.2.2.1) (wf64_lit (k := 2) (by decide) (by decide)) (by decide)).mono ?_
  rintro r w16 ⟨⟨rv, rfl, rv16⟩, h16, fm16⟩
  have oo : DS.Ok c17 a5.S := LV15.out.ok.late LV15.out.dep.uni LV15.out.dep.bul.ok 11 (by decide) 2
  change DepM w16 D _ c17 a5.S at h16
  change ResV w16 _ rv a5.acts a5.outs at rv16
  obtain ⟨A16, n16, e16, P16, q16, f16, rfl, ra16, ro16, fa16, fo16⟩ := rv16
  have LV16 : Hid (Live w16 D lo c17 a5.S) := Lib.hid (LV15.out.next h16 fm16.size oo)
  replace fa16 := fa16.mono LV15.out.size
  replace fo16 := fo16.mono LV15.out.size
  have B16 : Hid (Below w.heap.size w w16) := Lib.hid (B15.out.trans (fm16.below B15.out.size (fun j hj hc => by have := FL.out j hc; omega)))
  have X1_16 : Hid (ResX w16 lo g1 a1.acts a1.outs) := Lib.hid (X1_15.out.kept LV15.out.low fm16)
  have X2_16 : Hid (ResX w16 lo g2 a2.acts a2.outs) := Lib.hid (X2_15.out.kept LV15.out.low fm16)
  have X3_16 : Hid (ResX w16 lo g3 a3.acts a3.outs) := Lib.hid (X3_15.out.kept LV15.out.low fm16)
  have X4_16 : Hid (ResX w16 lo g4 a4.acts a4.outs) := Lib.hid (X4_15.out.kept LV15.out.low fm16)
  clear X1_15 X2_15 X3_15 X4_15
  clear h16 fm16 LV15 B15
  clear oo
  obtain ⟨g5, hg5⟩ : ∃ g, w16.heap.size = g := ⟨_, rfl⟩
  go_wp2_with (first
    | (refine wpList_alloc_agg rfl 57 rfl g5 hg5 [.slice none 0 0, .slice none 0 0] (allocRs _) ?_; intro w17 k17 l17 s17)
    | (refine wpList_store_agg rfl 57 _ _ rfl g5 [.slice none 0 0, .slice none 0 0] [.slice A16 n16 e16, .slice P16 q16 f16] rfl rfl ?hz rfl sizeRs (onesRs _ _ _ _ _ _) ?_; (case hz => exact k17); intro w18 k18 ff18 z18))
  have hz5 : w18.heap.size = g5 + 1 := by rw [z18, s17]
  have bb : Below w16.heap.size w16 w18 := (show Below w16.heap.size w16 w17 by rw [hg5]; exact l17).trans (ff18.below l17.size (fun j hj e => by have e' : j = g5 := e; omega))
  have LV18 : Hid (Live w18 D lo c17 a5.S) := Lib.hid (LV16.out.below bb)
  have B18 : Hid (Below w.heap.size w w18) := Lib.hid (B16.out.trans (bb.mono B16.out.size))
  have X5_18 : Hid (ResX w18 lo g5 a5.acts a5.outs) := Lib.hid (ResX.put ra16 ro16 fa16 fo16 LV16.out.size hg5 bb k18)
  have X1_18 : Hid (ResX w18 lo g1 a1.acts a1.outs) := Lib.hid (X1_16.out.below bb)
  have X2_18 : Hid (ResX w18 lo g2 a2.acts a2.outs) := Lib.hid (X2_16.out.below bb)
  have X3_18 : Hid (ResX w18 lo g3 a3.acts a3.outs) := Lib.hid (X3_16.out.below bb)
  have X4_18 : Hid (ResX w18 lo g4 a4.acts a4.outs) := Lib.hid (X4_16.out.below bb)
  clear X1_16 X2_16 X3_16 X4_16
  clear bb k17 l17 s17 k18 ff18 z18 ra16 ro16 fa16 fo16 LV16 B16
  -- answer
  try go_wp2_with fail
  have r9 := RowR.one (R := irec) w18 9 3 (cs := #[.int .i64 9]) rfl
  have b9 := below_alloc w18 (.cells #[.int .i64 9] 3)
  have o9 : OffR D.F (some ⟨w18.heap.size, 0, none⟩) 1 := fun _ b off e hc => by cases e; have := LV18.out.low _ hc; have := LV18.out.size; omega
  rw [hz5] at r9 o9
  clear hz5
  generalize w18.alloc (.cells #[.int .i64 9] 3) = w19 at *
  have LV19 : Hid (Live w19 D lo c17 a5.S) := Lib.hid (LV18.out.below b9)
  have B19 : Hid (Below w.heap.size w w19) := Lib.hid (B18.out.trans (b9.mono B18.out.size))
  have X1_19 : Hid (ResX w19 lo g1 a1.acts a1.outs) := Lib.hid (X1_18.out.below b9)
  have X2_19 : Hid (ResX w19 lo g2 a2.acts a2.outs) := Lib.hid (X2_18.out.below b9)
  have X3_19 : Hid (ResX w19 lo g3 a3.acts a3.outs) := Lib.hid (X3_18.out.below b9)
  have X4_19 : Hid (ResX w19 lo g4 a4.acts a4.outs) := Lib.hid (X4_18.out.below b9)
  have X5_19 : Hid (ResX w19 lo g5 a5.acts a5.outs) := Lib.hid (X5_18.out.below b9)
  clear X1_18 X2_18 X3_18 X4_18 X5_18
  clear b9 LV18 B18
  refine (answer_any D D.F c17 a5.S 20 1 true _ 1 1 [9] w19 LV19.out.dep (LV19.out.fine AL.out.2.2.2.2) (wf64_lit (k := 1) (by decide) (by decide)) r9 o9 (by decide)).mono ?_
  rintro r w20 ⟨⟨rv, rfl, rv20⟩, h20, fm20⟩
  have oo : DS.Ok c17 a6.S := LV19.out.ok.answer LV19.out.dep.uni 20 (by decide) 1 true [9]
  change DepM w20 D _ c17 a6.S at h20
  change ResV w20 _ rv a6.acts a6.outs at rv20
  rw [show (a5.S.answer c17 20 1 true [9]).er = 0 from a6_er]
  obtain ⟨A20, n20, e20, P20, q20, f20, rfl, ra20, ro20, fa20, fo20⟩ := rv20
  have LV20 : Hid (Live w20 D lo c17 a6.S) := Lib.hid (LV19.out.next h20 fm20.size oo)
  replace fa20 := fa20.mono LV19.out.size
  replace fo20 := fo20.mono LV19.out.size
  have B20 : Hid (Below w.heap.size w w20) := Lib.hid (B19.out.trans (fm20.below B19.out.size (fun j hj hc => by have := FL.out j hc; omega)))
  have X1_20 : Hid (ResX w20 lo g1 a1.acts a1.outs) := Lib.hid (X1_19.out.kept LV19.out.low fm20)
  have X2_20 : Hid (ResX w20 lo g2 a2.acts a2.outs) := Lib.hid (X2_19.out.kept LV19.out.low fm20)
  have X3_20 : Hid (ResX w20 lo g3 a3.acts a3.outs) := Lib.hid (X3_19.out.kept LV19.out.low fm20)
  have X4_20 : Hid (ResX w20 lo g4 a4.acts a4.outs) := Lib.hid (X4_19.out.kept LV19.out.low fm20)
  have X5_20 : Hid (ResX w20 lo g5 a5.acts a5.outs) := Lib.hid (X5_19.out.kept LV19.out.low fm20)
  clear X1_19 X2_19 X3_19 X4_19 X5_19
  clear h20 fm20 LV19 B19
  clear oo r9 o9
  obtain ⟨g6, hg6⟩ : ∃ g, w20.heap.size = g := ⟨_, rfl⟩
  go_wp2_with (first
    | (refine wpList_alloc_agg rfl 57 rfl g6 hg6 [.slice none 0 0, .slice none 0 0] (allocRs _) ?_; intro w21 k21 l21 s21)
    | (refine wpList_store_agg rfl 57 _ _ rfl g6 [.slice none 0 0, .slice none 0 0] [.slice A20 n20 e20, .slice P20 q20 f20] rfl rfl ?hz rfl sizeRs (onesRs _ _ _ _ _ _) ?_; (case hz => exact k21); intro w22 k22 ff22 z22))
  have bb : Below w20.heap.size w20 w22 := (show Below w20.heap.size w20 w21 by rw [hg6]; exact l21).trans (ff22.below l21.size (fun j hj e => by have e' : j = g6 := e; omega))
  have LV22 : Hid (Live w22 D lo c17 a6.S) := Lib.hid (LV20.out.below bb)
  have B22 : Hid (Below w.heap.size w w22) := Lib.hid (B20.out.trans (bb.mono B20.out.size))
  have X6_22 : Hid (ResX w22 lo g6 a6.acts a6.outs) := Lib.hid (ResX.put ra20 ro20 fa20 fo20 LV20.out.size hg6 bb k22)
  have X1_22 : Hid (ResX w22 lo g1 a1.acts a1.outs) := Lib.hid (X1_20.out.below bb)
  have X2_22 : Hid (ResX w22 lo g2 a2.acts a2.outs) := Lib.hid (X2_20.out.below bb)
  have X3_22 : Hid (ResX w22 lo g3 a3.acts a3.outs) := Lib.hid (X3_20.out.below bb)
  have X4_22 : Hid (ResX w22 lo g4 a4.acts a4.outs) := Lib.hid (X4_20.out.below bb)
  have X5_22 : Hid (ResX w22 lo g5 a5.acts a5.outs) := Lib.hid (X5_20.out.below bb)
  clear X1_20 X2_20 X3_20 X4_20 X5_20
  clear bb k21 l21 s21 k22 ff22 z22 ra20 ro20 fa20 fo20 LV20 B20
  -- snap
  try go_wp2_with fail
  refine (snap_any D D.F c17 a6.S 20 w22 LV22.out.dep (by decide)).mono ?_
  rintro r w23 ⟨rfl, h23, fl23⟩
  change DepM w23 D _ c17 (a6.S.look c17 20) at h23
  have hsn : (a6.S.look c17 20).snap c17 = s17 := rfl
  rw [hsn]
  have fm : Frm D.F w22 w23 := fl23.mono (fun j _ hj => DB.L_F hj)
  have X1_23 : Hid (ResX w23 lo g1 a1.acts a1.outs) := Lib.hid (X1_22.out.kept LV22.out.low fm)
  have X2_23 : Hid (ResX w23 lo g2 a2.acts a2.outs) := Lib.hid (X2_22.out.kept LV22.out.low fm)
  have X3_23 : Hid (ResX w23 lo g3 a3.acts a3.outs) := Lib.hid (X3_22.out.kept LV22.out.low fm)
  have X4_23 : Hid (ResX w23 lo g4 a4.acts a4.outs) := Lib.hid (X4_22.out.kept LV22.out.low fm)
  have X5_23 : Hid (ResX w23 lo g5 a5.acts a5.outs) := Lib.hid (X5_22.out.kept LV22.out.low fm)
  have X6_23 : Hid (ResX w23 lo g6 a6.acts a6.outs) := Lib.hid (X6_22.out.kept LV22.out.low fm)
  clear X1_22 X2_22 X3_22 X4_22 X5_22 X6_22
  have B23 : Hid (Below w.heap.size w w23) := Lib.hid (B22.out.trans (fm.below B22.out.size (fun j hj hc => by have := FL.out j hc; omega)))
  clear h23 fl23 fm LV22 B22 hsn
  obtain ⟨gs, hgs⟩ : ∃ g, w23.heap.size = g := ⟨_, rfl⟩
  obtain ⟨A1, m1, e1, P1, q1, f1, hk1, ra1, ro1, _, _, _⟩ := X1_23.out
  obtain ⟨c10, c11⟩ := res_cells hk1
  obtain ⟨A2, m2, e2, P2, q2, f2, hk2, ra2, ro2, _, _, _⟩ := X2_23.out
  obtain ⟨c20, c21⟩ := res_cells hk2
  obtain ⟨A3, m3, e3, P3, q3, f3, hk3, ra3, ro3, _, _, _⟩ := X3_23.out
  obtain ⟨c30, c31⟩ := res_cells hk3
  obtain ⟨A4, m4, e4, P4, q4, f4, hk4, ra4, ro4, _, _, _⟩ := X4_23.out
  obtain ⟨c40, c41⟩ := res_cells hk4
  obtain ⟨A5, m5, e5, P5, q5, f5, hk5, ra5, ro5, _, _, _⟩ := X5_23.out
  obtain ⟨c50, c51⟩ := res_cells hk5
  obtain ⟨A6, m6, e6, P6, q6, f6, hk6, ra6, ro6, _, _, _⟩ := X6_23.out
  obtain ⟨c60, c61⟩ := res_cells hk6
  obtain rfl : m1 = 1 := by have := ra1.length; rw [a1_acts] at this; exact this.symm
  obtain rfl : m2 = 1 := by have := ra2.length; rw [a2_acts] at this; exact this.symm
  obtain rfl : q3 = 1 := by have := ro3.length; rw [show a3.outs.length = 1 from by have := congrArg List.length a3_outs; rw [List.length_map] at this; exact this] at this; exact this.symm
  obtain rfl : q4 = 1 := by have := ro4.length; rw [a4_outs] at this; exact this.symm
  obtain rfl : q5 = 1 := by have := ro5.length; rw [a5_outs] at this; exact this.symm
  obtain rfl : q6 = 0 := by have := ro6.length; rw [a6_outs] at this; exact this.symm
  rw [a1_acts] at ra1
  obtain ⟨ba, oa, ya, rfl, hya, _, hca⟩ := ra1.at_ (i := 0) (by decide)
  have hya' : ya = ⟨true, 1, 10⟩ := by simpa using hya.symm
  subst hya'
  obtain ⟨bo, po, yo, rfl, hyo, hco⟩ := ro3.out (i := 0) (by decide)
  have hyo' : yo.cause = 3 := by
    have h1 : (a3.outs.map Ot.cause)[0]? = some yo.cause := by rw [List.getElem?_map, hyo]; rfl
    rw [a3_outs] at h1
    simpa using h1.symm
  have cc : w23.cell? ⟨bo, po + 2, none⟩ = some (.int .i64 3) := by have := hco 2 _ rfl; rw [hyo'] at this; simpa using this
  have ca : w23.rangeAt ba oa [.bool true, .int .i64 1, .int .u64 10] := fun j u hu => by have := hca j u hu; simpa using this
  clear hca hco hya hyo hyo' ra1 ro3
  clear X1_23 X2_23 X3_23 X4_23 X5_23 X6_23
  clear hk1 hk2 hk3 hk4 hk5 hk6
  clear AL FL WL ro1 ra2 ro2 ra3 ra4 ro4 ra5 ro5 ra6 ro6
  have kc : ∀ wx, Below w23.heap.size w23 wx → (wx.cell? ⟨g1, 0, none⟩ = some (.slice (some ⟨ba, oa, none⟩) 1 e1) ∧ wx.cell? ⟨g2, 0, none⟩ = some (.slice A2 1 e2) ∧ wx.cell? ⟨g3, 1, none⟩ = some (.slice (some ⟨bo, po, none⟩) 1 f3) ∧ wx.cell? ⟨g4, 1, none⟩ = some (.slice P4 1 f4) ∧ wx.cell? ⟨g5, 1, none⟩ = some (.slice P5 1 f5) ∧ wx.cell? ⟨g6, 1, none⟩ = some (.slice P6 0 f6) ∧ wx.cell? ⟨bo, po + 2, none⟩ = some (.int .i64 3)) ∧ wx.rangeAt ba oa [.bool true, .int .i64 1, .int .u64 10] := fun wx b => ⟨⟨cell_later b c10, cell_later b c20, cell_later b c31, cell_later b c41, cell_later b c51, cell_later b c61, cell_later b cc⟩, range_later ca b⟩
  have KC := Lib.hid kc
  clear kc c10 c11 c20 c21 c30 c31 c40 c41 c50 c51 c60 c61 cc ca
  have hsA := Lib.hid sameA1
  have hsC := Lib.hid sameC1
  go_wp2_with (first
    | (refine wpList_alloc_agg rfl 75 rfl gs hgs (snapL zeroSn) (allocSn _) ?_; intro wy ky ly sy)
    | (refine wpList_store_agg rfl 75 _ _ rfl gs (snapL zeroSn) (snapL s17) rfl rfl ?hz rfl (sizeSn _) (onesSn _) ?_; (case hz => exact ky); intro wz kz fz _;
       have bz : Below w23.heap.size w23 wz := (show Below w23.heap.size w23 wy by rw [hgs]; exact ly).trans (fz.below ly.size (fun j hj e => by have e' : j = gs := e; omega));
       have BZ : Hid (Below w.heap.size w wz) := Lib.hid (B23.out.trans (bz.mono B23.out.size));
       obtain ⟨⟨c10, c20, c31, c41, c51, c61, cc⟩, ca⟩ := KC.out wz bz;
       have s0 : wz.cell? ⟨gs, 0, none⟩ = some (.int .i64 0) := by have := vobj_cell (j := 0) kz rfl; rw [s17_busy] at this; exact this;
       have s3 : wz.cell? ⟨gs, 3, none⟩ = some (.int .i64 0) := by have := vobj_cell (j := 3) kz rfl; rw [s17_calls] at this; exact this;
       have s5 : wz.rangeAt gs 5 [.int .u64 0, .int .u64 0, .int .u64 2, .int .u64 0, .int .u64 0] := s17_range kz;
       have qA := hsA.out wz; have qC := hsC.out wz;
       have ca0 : wz.cell? ⟨ba, oa, none⟩ = some (.bool true) := ca 0 _ rfl; have ca1 : wz.cell? ⟨ba, oa + 1, none⟩ = some (.int .i64 1) := ca 1 _ rfl; have ca2 : wz.cell? ⟨ba, oa + 2, none⟩ = some (.int .u64 10) := ca 2 _ rfl;
       have s50 : wz.cell? ⟨gs, 5, none⟩ = some (.int .u64 0) := s5 0 _ rfl; have s51 : wz.cell? ⟨gs, 6, none⟩ = some (.int .u64 0) := s5 1 _ rfl; have s52 : wz.cell? ⟨gs, 7, none⟩ = some (.int .u64 2) := s5 2 _ rfl; have s53 : wz.cell? ⟨gs, 8, none⟩ = some (.int .u64 0) := s5 3 _ rfl; have s54 : wz.cell? ⟨gs, 9, none⟩ = some (.int .u64 0) := s5 4 _ rfl;
       clear bz ky ly sy kz fz KC ca s5)
    | (fail))
  go_ret
  exact ⟨rfl, BZ.out⟩
end Go.Proofs.YtgnccpmkdgfjeaaGreat

namespace Go.Proofs.YtgnccpmkdgfjeaaGreat
set_option linter.unusedVariables false
set_option maxRecDepth 100000
open Go.ChangeShapes Go.WideShapes Go.ChangeAt Go.RowKit

theorem in_any (n lo hi : Int) (w : World) : Calls Tryz.prog 81 #[.int .i64 n, .int .i64 lo, .int .i64 hi] w fun r w' => r = .returned (.bool (decide (lo ≤ n ∧ n ≤ hi))) ∧ w = w' := by
  by_cases h : lo ≤ n
  · go_enter Tryz.func81, Tryz.ntmps81
    go_wp2
    go_ret
    exact ⟨ret_bool (by simp [h]), rfl⟩
  · go_enter Tryz.func81, Tryz.ntmps81
    go_wp2
    go_ret
    exact ⟨ret_bool (by simp; omega), rfl⟩
theorem only_any (b : Bool) (n lo hi : Int) (w : World) : Calls Tryz.prog 82 #[.bool b, .int .i64 n, .int .i64 lo, .int .i64 hi] w fun r w' => r = .returned (.bool (if b = true then decide (lo ≤ n ∧ n ≤ hi) else decide (n = 0))) ∧ w = w' := by
  cases b
  · go_enter Tryz.func82, Tryz.ntmps82
    go_wp2
    go_ret
    refine ⟨ret_bool ?_, rfl⟩
    by_cases h : n = 0 <;> simp [h]
  · go_enter Tryz.func82, Tryz.ntmps82
    go_wp2_with (go_at_call 81; refine (in_any _ _ _ _).mono ?_; rintro r w' ⟨rfl, rfl⟩)
    go_ret
    exact ⟨rfl, rfl⟩
theorem ticks_any (n lo : Int) (w : World) : Calls Tryz.prog 83 #[.int .u64 n, .int .u64 lo] w fun r w' => r = .returned (.bool (decide (lo ≤ n ∧ n ≤ 1099511627776))) ∧ w = w' := by
  by_cases h : lo ≤ n
  · go_enter Tryz.func83, Tryz.ntmps83
    go_wp2
    go_ret
    exact ⟨ret_bool (by simp [h]), rfl⟩
  · go_enter Tryz.func83, Tryz.ntmps83
    go_wp2
    go_ret
    exact ⟨ret_bool (by simp; omega), rfl⟩

end Go.Proofs.YtgnccpmkdgfjeaaGreat

namespace Go.Proofs.YtgnccpmkdgfjeaaGreat
set_option linter.unusedVariables false
set_option maxRecDepth 100000
open Go.ChangeShapes Go.WideShapes Go.ChangeAt Go.RowKit

theorem still_of {P : Program} {f : FuncId} {args : Array Value} {w : World} {v : Value} (h : Calls P f args w fun e w' => e = .returned v ∧ w = w') : Calls P f args w fun e w' => e = .returned v ∧ w' = w :=
  h.mono fun _ _ ⟨a, b⟩ => ⟨a, b.symm⟩
theorem bools_cell {w : World} {g j : Nat} {ty : TypeId} {l : List Bool} {b : Bool} (hg : w.heap.size = g) (h : l[j]? = some b) : (w.alloc (.cells ⟨l.map Value.bool⟩ ty)).cell? ⟨g, j, none⟩ = some (.bool b) := by
  subst hg
  rw [cell_of (heap_alloc_at w _)]
  simp [h]

set_option maxRecDepth 100000 in
set_option maxHeartbeats 8000000 in
theorem rcheck_any (c : Cnf) (w : World) (n : Nat) (hn : c.bad = n) :
    Calls Tryz.prog 34 #[.agg (aggV c.vals)] w fun r w' => r = .returned (.int .i64 n) ∧ Below w.heap.size w w' := by
  obtain ⟨g, hg⟩ : ∃ g, w.heap.size = g := ⟨_, rfl⟩
  have k0 := fun v => still_of (in_any c.mode 1 2 v)
  obtain ⟨b0, e0⟩ : ∃ b, decide (1 ≤ c.mode ∧ c.mode ≤ 2) = b := ⟨_, rfl⟩
  rw [e0] at k0
  have k1 := fun v => still_of (only_any (c.mode == 1) c.pool 1 8 v)
  obtain ⟨b1, e1⟩ : ∃ b, (if (c.mode == 1) = true then decide (1 ≤ c.pool ∧ c.pool ≤ 8) else decide (c.pool = 0)) = b := ⟨_, rfl⟩
  rw [e1] at k1
  have k2 := fun v => still_of (only_any (c.mode == 1) c.queue 0 8 v)
  obtain ⟨b2, e2⟩ : ∃ b, (if (c.mode == 1) = true then decide (0 ≤ c.queue ∧ c.queue ≤ 8) else decide (c.queue = 0)) = b := ⟨_, rfl⟩
  rw [e2] at k2
  have k3 := fun v => still_of (only_any (c.mode == 2) c.sem 1 8 v)
  obtain ⟨b3, e3⟩ : ∃ b, (if (c.mode == 2) = true then decide (1 ≤ c.sem ∧ c.sem ≤ 8) else decide (c.sem = 0)) = b := ⟨_, rfl⟩
  rw [e3] at k3
  have k4 := fun v => still_of (in_any c.fbMax 0 4 v)
  obtain ⟨b4, e4⟩ : ∃ b, decide (0 ≤ c.fbMax ∧ c.fbMax ≤ 4) = b := ⟨_, rfl⟩
  rw [e4] at k4
  have k5 := fun v => still_of (in_any c.chain 0 3 v)
  obtain ⟨b5, e5⟩ : ∃ b, decide (0 ≤ c.chain ∧ c.chain ≤ 3) = b := ⟨_, rfl⟩
  rw [e5] at k5
  have k6 := fun v => still_of (ticks_any c.timeout 1 v)
  obtain ⟨b6, e6⟩ : ∃ b, decide (1 ≤ c.timeout ∧ c.timeout ≤ 1099511627776) = b := ⟨_, rfl⟩
  rw [e6] at k6
  have k7 := fun v => still_of (ticks_any c.fbTimeout 1 v)
  obtain ⟨b7, e7⟩ : ∃ b, decide (1 ≤ c.fbTimeout ∧ c.fbTimeout ≤ 1099511627776) = b := ⟨_, rfl⟩
  rw [e7] at k7
  have k8 := fun v => still_of (in_any c.volume 1 1000 v)
  obtain ⟨b8, e8⟩ : ∃ b, decide (1 ≤ c.volume ∧ c.volume ≤ 1000) = b := ⟨_, rfl⟩
  rw [e8] at k8
  have k9 := fun v => still_of (in_any c.percent 0 100 v)
  obtain ⟨b9, e9⟩ : ∃ b, decide (0 ≤ c.percent ∧ c.percent ≤ 100) = b := ⟨_, rfl⟩
  rw [e9] at k9
  have k10 := fun v => still_of (ticks_any c.sleep 0 v)
  obtain ⟨b10, e10⟩ : ∃ b, decide (0 ≤ c.sleep ∧ c.sleep ≤ 1099511627776) = b := ⟨_, rfl⟩
  rw [e10] at k10
  have k11 := fun v => still_of (in_any c.buckets 1 8 v)
  obtain ⟨b11, e11⟩ : ∃ b, decide (1 ≤ c.buckets ∧ c.buckets ≤ 8) = b := ⟨_, rfl⟩
  rw [e11] at k11
  have k12 := fun v => still_of (ticks_any c.width 1 v)
  obtain ⟨b12, e12⟩ : ∃ b, decide (1 ≤ c.width ∧ c.width ≤ 1099511627776) = b := ⟨_, rfl⟩
  rw [e12] at k12
  have k13 := fun v => still_of (ticks_any c.window 0 v)
  obtain ⟨b13, e13⟩ : ∃ b, decide (0 ≤ c.window ∧ c.window ≤ 1099511627776) = b := ⟨_, rfl⟩
  rw [e13] at k13
  have k14 := fun v => still_of (only_any (decide (0 < c.window)) c.batch 1 4 v)
  obtain ⟨b14, e14⟩ : ∃ b, (if (decide (0 < c.window)) = true then decide (1 ≤ c.batch ∧ c.batch ≤ 4) else decide (c.batch = 0)) = b := ⟨_, rfl⟩
  rw [e14] at k14
  have k15 := fun v => still_of (in_any c.force 0 2 v)
  obtain ⟨b15, e15⟩ : ∃ b, decide (0 ≤ c.force ∧ c.force ≤ 2) = b := ⟨_, rfl⟩
  rw [e15] at k15
  have hok : c.oks = [b0, b1, b2, b3, b4, b5, b6, b7, b8, b9, b10, b11, b12, b13, b14, b15] := by
    simp only [Cnf.oks, ← e0, ← e1, ← e2, ← e3, ← e4, ← e5, ← e6, ← e7, ← e8, ← e9, ← e10, ← e11, ← e12, ← e13, ← e14, ← e15, beq_iff_eq, decide_eq_true_eq]
  obtain ⟨l, hl⟩ : ∃ l, [b0, b1, b2, b3, b4, b5, b6, b7, b8, b9, b10, b11, b12, b13, b14, b15] = l := ⟨_, rfl⟩
  have HL := Lib.hid hl
  have HB : Hid (Cnf.firstF l = n) := Lib.hid (by rw [← hl, ← hok]; exact hn)
  have HLen : Hid (l.length = 16) := Lib.hid (by rw [← hl]; rfl)
  have HC : Hid (∀ v : World, v.heap[g]? = some (vobj 24 c.vals) → _) := Lib.hid (fun v hv => Cnf.cells_vals hv)
  clear hok hl hn e0 e1 e2 e3 e4 e5 e6 e7 e8 e9 e10 e11 e12 e13 e14 e15
  go_enter Tryz.func34, Tryz.ntmps34
  go_wp2_with (refine wpList_box_agg rfl 24 _ rfl g hg c.vals rfl ?_; intro w1 h1 l1 s1)
  have h2 : w1.drew.heap[g]? = some (vobj 24 c.vals) := h1
  have B2 := Lib.hid (below_ali l1 (drew_ali w1))
  have s2 : w1.drew.heap.size = g + 1 := s1
  refine region_tail 60 (by kernel_rfl) (by kernel_rfl) ?_
  simp only [List.take_succ_cons, List.take_zero, List.drop_succ_cons, List.drop_zero]
  generalize w1.drew = wd at *
  obtain ⟨c0, c1, c2, c3, c4, c5, c6, c7, c8, c9, c10, c11, c12, c13, c14, c15⟩ := HC.out _ h2
  clear h1 h2 l1 s1 HC
  repeat still_step
  still_call (k0 _)
  clear k0
  repeat still_step
  still_call (k1 _)
  clear k1
  repeat still_step
  still_call (k2 _)
  clear k2
  repeat still_step
  still_call (k3 _)
  clear k3
  repeat still_step
  still_call (k4 _)
  clear k4
  repeat still_step
  still_call (k5 _)
  clear k5
  repeat still_step
  still_call (k6 _)
  clear k6
  repeat still_step
  still_call (k7 _)
  clear k7
  repeat still_step
  still_call (k8 _)
  clear k8
  repeat still_step
  still_call (k9 _)
  clear k9
  repeat still_step
  still_call (k10 _)
  clear k10
  repeat still_step
  still_call (k11 _)
  clear k11
  repeat still_step
  still_call (k12 _)
  clear k12
  repeat still_step
  still_call (k13 _)
  clear k13
  repeat still_step
  still_call (k14 _)
  clear k14
  repeat still_step
  still_call (k15 _)
  clear k15
  refine wpStill_nil ?_
  clear c0 c1 c2 c3 c4 c5 c6 c7 c8 c9 c10 c11 c12 c13 c14 c15
  have hce : ∀ j b, l[j]? = some b → (wd.alloc (.cells #[.bool b0, .bool b1, .bool b2, .bool b3, .bool b4, .bool b5, .bool b6, .bool b7, .bool b8, .bool b9, .bool b10, .bool b11, .bool b12, .bool b13, .bool b14, .bool b15] 4)).cell? ⟨g + 1, j, none⟩ = some (.bool b) := by
    rw [← HL.out]
    exact fun j b h => bools_cell (l := [b0, b1, b2, b3, b4, b5, b6, b7, b8, b9, b10, b11, b12, b13, b14, b15]) s2 h
  have HCE := Lib.hid hce
  have BE := Lib.hid (B2.out.trans ((below_alloc wd (.cells #[.bool b0, .bool b1, .bool b2, .bool b3, .bool b4, .bool b5, .bool b6, .bool b7, .bool b8, .bool b9, .bool b10, .bool b11, .bool b12, .bool b13, .bool b14, .bool b15] 4)).mono (by omega : g ≤ wd.heap.size)))
  clear hce
  go_wp2
  generalize wd.alloc (.cells #[.bool b0, .bool b1, .bool b2, .bool b3, .bool b4, .bool b5, .bool b6, .bool b7, .bool b8, .bool b9, .bool b10, .bool b11, .bool b12, .bool b13, .bool b14, .bool b15] 4) = we at *
  go_loopg [4] 16 (fun k v4 wr => ∃ i : Nat, i + k = 16 ∧ v4 = .int .i64 i ∧ (∀ j, j < i → l[j]? = some true) ∧ we = wr)
  case atStart => exact ⟨0, by omega, rfl, fun j hj => by omega, rfl⟩
  case round =>
    obtain ⟨i, hik, rfl, hall, rfl⟩ := hrel
    have HA := Lib.hid hall
    clear hall
    by_cases hi : i < 16
    · obtain ⟨b, hb⟩ : ∃ b, l[i]? = some b := ⟨_, List.getElem?_eq_getElem (by rw [HLen.out]; exact hi)⟩
      have hc := HCE.out i b hb
      have HI := Lib.hid hb
      clear hb
      cases b
      · go_wp2
        go_ret
        have hw := Cnf.firstF_at HA.out HI.out
        rw [HB.out] at hw
        exact ⟨by rw [hw]; simp, by subst hg; exact BE.out⟩
      · go_wp2
        go_roundg (16 - (i + 1))
        case measure => omega
        case rel =>
          refine ⟨i + 1, by omega, by simp, fun j hj => ?_, rfl⟩
          by_cases hji : j < i
          · exact HA.out j hji
          · obtain rfl : j = i := by omega
            exact HI.out
    · go_wp2
      go_ret
      have hw := Cnf.firstF_all (l := l) (fun j hj => HA.out j (by rw [HLen.out] at hj; omega))
      rw [HB.out] at hw
      exact ⟨by rw [hw]; rfl, by subst hg; exact BE.out⟩
end Go.Proofs.YtgnccpmkdgfjeaaGreat
