/- What is proved: DepNobody of porpoiselaw17 answers true for every input, and leaves its arguments as they were; conditions: those of the given row alone. -/
import Derived.Test.YtgnccpmkdgfjeaaGreatPart1
import Derived.Test.YtgnccpmkdgfjeaaGreatPart5
namespace Go.Proofs.YtgnccpmkdgfjeaaGreat.depNobody
open Go.ChangeShapes Go.WideShapes Go.ChangeAt Go.RowKit Go.Deep
open Go.ChangeMaps (open_string shut_string)
set_option linter.unusedVariables false

theorem own : ownKnob Tryz.prog.godebug = none := by kernel_rfl
theorem laidOut : laidOutB Tryz.prog = true := by kernel_rfl

theorem sameSn0 (w : World) : (Op.equalIn 9999 67 (.agg #[.int .u64 0, .int .u64 0, .int .u64 0, .int .u64 0, .int .u64 0]) (.agg #[.int .u64 0, .int .u64 0, .int .u64 0, .int .u64 0, .int .u64 0])).run Tryz.prog w = .ok true w := by kernel_rfl
theorem fieldRs0 (w : World) : (Instr.field 57 (.agg #[.slice none 0 0, .slice none 0 0]) 1).run Tryz.prog w = .ok (.slice none 0 0) w := by kernel_rfl
theorem fieldSn3 (s : SN) (w : World) : (Instr.field 75 (.agg (aggV (snapL s))) 3).run Tryz.prog w = .ok (.int .i64 s.calls) w := by kernel_rfl
theorem snap_d0 (now : Int) (w : World) : Calls Tryz.prog 22 #[.pointer none, .int .u64 now] w fun r w' => r = .returned (.agg #[.int .i64 0, .int .i64 0, .int .i64 0, .int .i64 0, .int .i64 0, .int .u64 0, .int .u64 0, .int .u64 0, .int .u64 0, .int .u64 0, .int .u64 0, .int .u64 0]) ∧ Below w.heap.size w w' := snap_dnil now w
theorem nothing17 (c : Cnf) (now : Nat) (id : Int) : (DS.new c).pick = ⟨DS.new c, [], [], 3⟩ ∧ (DS.new c).answer c now id true [] = ⟨DS.new c, [], [], 3⟩ ∧ (DS.new c).fallback c now id 1 true [] = ⟨DS.new c, [], [], 3⟩ ∧ (DS.new c).offer c now [] [] = ⟨DS.new c, [], [], 1⟩ ∧ (DS.new c).knows id = false := by
  refine ⟨rfl, ?_, ?_, rfl, rfl⟩
  · unfold DS.answer; rw [if_neg (show ¬ id ∈ (DS.new c).bul.run from (by intro h; cases h))]
  · unfold DS.fallback; rw [if_neg (show ¬ (id, (1 : Int)) ∈ (DS.new c).fb from (by intro h; cases h))]

set_option maxRecDepth 100000 in
set_option maxHeartbeats 8000000 in
theorem walk (w : World) (c0 : Array Value) (w0 : Flat [.int .i64, .int .i64, .int .i64, .int .i64, .int .i64, .int .i64, .int .u64, .int .u64, .int .i64, .int .i64, .int .u64, .int .i64, .int .u64, .int .u64, .int .i64, .int .i64] c0.toList) (a1 : Int) (w1 : (Lit.int .i64 a1).wf = true) (a2 : Int) (w2 : (Lit.int .u64 a2).wf = true) :
    Calls Tryz.prog 9 #[.agg c0, .int .i64 a1, .int .u64 a2] w fun e w' => e = .returned (.bool true) ∧ Below w.heap.size w w' := by
  have b1 : wf64 a1 := (have h := bounds_i64 w1; ⟨by omega, by omega⟩)
  have b2 := wf_u64 w2
  obtain ⟨c, rfl, hc⟩ := cnf_flat w0
  obtain ⟨now, hnw⟩ : ∃ n : Nat, (n : Int) = a2 := ⟨a2.toNat, by have := b2.1; omega⟩
  subst hnw
  have hnow : now ≤ 18446744073709551615 := by have := b2.2; omega
  obtain ⟨g, hg⟩ : ∃ g, w.heap.size = g := ⟨_, rfl⟩
  obtain ⟨fs, hu⟩ := undC
  have HU := Lib.hid hu
  have HC := Lib.hid hc
  have HI := Lib.hid b1
  have HN := Lib.hid hnow
  obtain ⟨fr, hur⟩ := undRs
  have HUR := Lib.hid hur
  have SS := Lib.hid sameSn0
  clear hu hc b1 b2 hnow hur
  go_enter Tryz.func9, Tryz.ntmps9
  go_wp2_with (first
    | (refine wpList_box_agg rfl 24 _ rfl g hg c.vals rfl ?_; intro v1 k1 l1 t1)
    | fail)
  have K0 : Hid (v1.heap[g]? = some (vobj 24 c.vals)) := Lib.hid k1
  have L0 : Hid (Below w.heap.size w v1) := Lib.hid (by rw [hg]; exact l1)
  clear k1 l1 t1
  refine (awake17_any _).mono ?_
  rintro r v0 ⟨rfl, l1⟩
  have K1 : Hid (v0.heap[g]? = some (vobj 24 c.vals)) := Lib.hid (kb_below K0.out l1)
  have L1 : Hid (Below w.heap.size w v0) := Lib.hid (L0.out.trans (l1.mono L0.out.size))
  clear l1 K0 L0
  try go_wp2_with fail
  refine (one17_any 1 1 (wf64_lit (k := 1) (by decide) (by decide)) v0).mono ?_
  rintro r x0 ⟨A, e0, M, d0, rfl, hb, l1⟩
  have K2 : Hid (x0.heap[g]? = some (vobj 24 c.vals)) := Lib.hid (kb_below K1.out l1)
  have L2 : Hid (Below w.heap.size w x0) := Lib.hid (L1.out.trans (l1.mono L1.out.size))
  clear l1 K1 L1
  try go_wp2_with fail
  refine (offer_nil now A 1 e0 M 1 d0 [1] [⟨1, 0⟩] x0 hb).mono ?_
  rintro r x1 ⟨rfl, l1⟩
  have K3 : Hid (x1.heap[g]? = some (vobj 24 c.vals)) := Lib.hid (kb_below K2.out l1)
  have L3 : Hid (Below w.heap.size w x1) := Lib.hid (L2.out.trans (l1.mono L2.out.size))
  clear l1 K2 L2
  obtain ⟨g1, hg1⟩ : ∃ g, x1.heap.size = g := ⟨_, rfl⟩
  go_wp2_with (first
    | (refine wpList_alloc_agg rfl 57 rfl g1 hg1 [.slice none 0 0, .slice none 0 0] (allocRs _) ?_; intro y1a kg1 lg1 sg1)
    | (refine wpList_store_agg rfl 57 _ _ rfl g1 [.slice none 0 0, .slice none 0 0] [.slice none 0 0, .slice none 0 0] rfl rfl ?hz rfl sizeRs (onesRs _ _ _ _ _ _) ?_; (case hz => exact kg1); intro y1 kkg1 ffg1 zg1))
  have bb : Below x1.heap.size x1 y1 := (show Below x1.heap.size x1 y1a by rw [hg1]; exact lg1).trans (ffg1.below lg1.size (fun j hj e => by have e' : j = g1 := e; omega))
  have K4 : Hid (y1.heap[g]? = some (vobj 24 c.vals)) := Lib.hid (kb_below K3.out bb)
  have L4 : Hid (Below w.heap.size w y1) := Lib.hid (L3.out.trans (bb.mono L3.out.size))
  clear bb kg1 lg1 sg1 kkg1 ffg1 zg1 hg1 K3 L3
  try go_wp2_with fail
  refine (pick_dnil now y1).mono ?_
  rintro r x2 ⟨rfl, l1⟩
  have K5 : Hid (x2.heap[g]? = some (vobj 24 c.vals)) := Lib.hid (kb_below K4.out l1)
  have L5 : Hid (Below w.heap.size w x2) := Lib.hid (L4.out.trans (l1.mono L4.out.size))
  clear l1 K4 L4
  obtain ⟨g2, hg2⟩ : ∃ g, x2.heap.size = g := ⟨_, rfl⟩
  go_wp2_with (first
    | (refine wpList_alloc_agg rfl 57 rfl g2 hg2 [.slice none 0 0, .slice none 0 0] (allocRs _) ?_; intro y2a kg2 lg2 sg2)
    | (refine wpList_store_agg rfl 57 _ _ rfl g2 [.slice none 0 0, .slice none 0 0] [.slice none 0 0, .slice none 0 0] rfl rfl ?hz rfl sizeRs (onesRs _ _ _ _ _ _) ?_; (case hz => exact kg2); intro y2 kkg2 ffg2 zg2))
  have bb : Below x2.heap.size x2 y2 := (show Below x2.heap.size x2 y2a by rw [hg2]; exact lg2).trans (ffg2.below lg2.size (fun j hj e => by have e' : j = g2 := e; omega))
  have K6 : Hid (y2.heap[g]? = some (vobj 24 c.vals)) := Lib.hid (kb_below K5.out bb)
  have L6 : Hid (Below w.heap.size w y2) := Lib.hid (L5.out.trans (bb.mono L5.out.size))
  clear bb kg2 lg2 sg2 kkg2 ffg2 zg2 hg2 K5 L5
  try go_wp2_with fail
  refine (answer_nil now a1 true none 0 0 y2).mono ?_
  rintro r x3 ⟨rfl, l1⟩
  have K7 : Hid (x3.heap[g]? = some (vobj 24 c.vals)) := Lib.hid (kb_below K6.out l1)
  have L7 : Hid (Below w.heap.size w x3) := Lib.hid (L6.out.trans (l1.mono L6.out.size))
  clear l1 K6 L6
  obtain ⟨g3, hg3⟩ : ∃ g, x3.heap.size = g := ⟨_, rfl⟩
  go_wp2_with (first
    | (refine wpList_alloc_agg rfl 57 rfl g3 hg3 [.slice none 0 0, .slice none 0 0] (allocRs _) ?_; intro y3a kg3 lg3 sg3)
    | (refine wpList_store_agg rfl 57 _ _ rfl g3 [.slice none 0 0, .slice none 0 0] [.slice none 0 0, .slice none 0 0] rfl rfl ?hz rfl sizeRs (onesRs _ _ _ _ _ _) ?_; (case hz => exact kg3); intro y3 kkg3 ffg3 zg3))
  have bb : Below x3.heap.size x3 y3 := (show Below x3.heap.size x3 y3a by rw [hg3]; exact lg3).trans (ffg3.below lg3.size (fun j hj e => by have e' : j = g3 := e; omega))
  have K8 : Hid (y3.heap[g]? = some (vobj 24 c.vals)) := Lib.hid (kb_below K7.out bb)
  have L8 : Hid (Below w.heap.size w y3) := Lib.hid (L7.out.trans (bb.mono L7.out.size))
  clear bb kg3 lg3 sg3 kkg3 ffg3 zg3 hg3 K7 L7
  try go_wp2_with fail
  refine (fallback_nil now a1 1 true none 0 0 y3).mono ?_
  rintro r x4 ⟨rfl, l1⟩
  have K9 : Hid (x4.heap[g]? = some (vobj 24 c.vals)) := Lib.hid (kb_below K8.out l1)
  have L9 : Hid (Below w.heap.size w x4) := Lib.hid (L8.out.trans (l1.mono L8.out.size))
  clear l1 K8 L8
  obtain ⟨g4, hg4⟩ : ∃ g, x4.heap.size = g := ⟨_, rfl⟩
  go_wp2_with (first
    | (refine wpList_alloc_agg rfl 57 rfl g4 hg4 [.slice none 0 0, .slice none 0 0] (allocRs _) ?_; intro y4a kg4 lg4 sg4)
    | (refine wpList_store_agg rfl 57 _ _ rfl g4 [.slice none 0 0, .slice none 0 0] [.slice none 0 0, .slice none 0 0] rfl rfl ?hz rfl sizeRs (onesRs _ _ _ _ _ _) ?_; (case hz => exact kg4); intro y4 kkg4 ffg4 zg4))
  have bb : Below x4.heap.size x4 y4 := (show Below x4.heap.size x4 y4a by rw [hg4]; exact lg4).trans (ffg4.below lg4.size (fun j hj e => by have e' : j = g4 := e; omega))
  have K10 : Hid (y4.heap[g]? = some (vobj 24 c.vals)) := Lib.hid (kb_below K9.out bb)
  have L10 : Hid (Below w.heap.size w y4) := Lib.hid (L9.out.trans (bb.mono L9.out.size))
  clear bb kg4 lg4 sg4 kkg4 ffg4 zg4 hg4 K9 L9
  try go_wp2_with fail
  refine (late_nil now a1 y4).mono ?_
  rintro r x5 ⟨rfl, l1⟩
  have K11 : Hid (x5.heap[g]? = some (vobj 24 c.vals)) := Lib.hid (kb_below K10.out l1)
  have L11 : Hid (Below w.heap.size w x5) := Lib.hid (L10.out.trans (l1.mono L10.out.size))
  clear l1 K10 L10
  have FR := fieldRs0
  try go_wp2_with fail
  clear FR
  refine (knows_nil a1 x5).mono ?_
  rintro r x6 ⟨rfl, rfl⟩
  try go_wp2_with fail
  refine (snap_d0 now x5).mono ?_
  rintro r x7 ⟨rfl, l1⟩
  have K12 : Hid (x7.heap[g]? = some (vobj 24 c.vals)) := Lib.hid (kb_below K11.out l1)
  have L12 : Hid (Below w.heap.size w x7) := Lib.hid (L11.out.trans (l1.mono L11.out.size))
  clear l1 K11 L11
  have qs := SS.out x7
  go_wp2_with (refine wpList_load_agg rfl 24 _ rfl g rfl c.vals ?hy _ HU.out rfl (sizeC _) ?_; (case hy => exact K12.out))
  clear qs
  by_cases hbad : c.bad = 0
  case neg =>
    refine (new_dbad c x7 HC.out hbad).mono ?_
    rintro r z1 ⟨rfl, l1⟩
    have hp : (0 : Int) < c.bad := by omega
    have K13 : Hid (z1.heap[g]? = some (vobj 24 c.vals)) := Lib.hid (kb_below K12.out l1)
    have L13 : Hid (Below w.heap.size w z1) := Lib.hid (L12.out.trans (l1.mono L12.out.size))
    go_wp2_with (first
      | (refine wpList_load_aggG rfl 24 _ rfl g rfl c.vals K13.out _ HU.out rfl (sizeC _) ?_))
    refine (rcheck_any c z1 c.bad rfl).mono ?_
    rintro r z2 ⟨rfl, l1⟩
    have L99 : Hid (Below w.heap.size w z2) := Lib.hid (L13.out.trans (l1.mono L13.out.size))
    have hq : decide ((0 : Int) < (c.bad : Int)) = true := decide_eq_true hp
    go_wp2
    go_ret
    refine ⟨?_, L99.out⟩
    first
      | rfl
      | (simp; omega)

  refine (new_dep c x7 HC.out hbad).mono ?_
  rintro r z1 ⟨D, rfl, hd, l1, hlo⟩
  unfold ptr
  have FL : Hid (∀ j, D.F j → x7.heap.size ≤ j) := Lib.hid hlo
  have GX : Hid (g < x7.heap.size) := Lib.hid (heap_lt K12.out)
  have WX : Hid (w.heap.size ≤ x7.heap.size) := Lib.hid L12.out.size
  have LV13 : Hid (Live z1 D z1.heap.size c (DS.new c)) := Lib.hid ⟨hd, DS.new_ok HC.out hbad, fun j hj => hd.old hj, Nat.le_refl _⟩
  obtain ⟨lo, hl⟩ : ∃ lo, z1.heap.size = lo := ⟨_, rfl⟩
  rw [hl] at LV13
  have LEN : Hid ((DS.new c).cs.length ≤ 1000) := Lib.hid (by rw [show (DS.new c).cs = [] from rfl]; decide)
  obtain ⟨n17a, n17b, n17c, n17d, n17e⟩ := nothing17 c now a1
  have NP := Lib.hid n17a
  have NA := Lib.hid n17b
  have NF := Lib.hid n17c
  have NO := Lib.hid n17d
  have NK := Lib.hid n17e
  clear hd hlo n17a n17b n17c n17d n17e
  have K13 : Hid (z1.heap[g]? = some (vobj 24 c.vals)) := Lib.hid (kb_below K12.out l1)
  have L13 : Hid (Below w.heap.size w z1) := Lib.hid (L12.out.trans (l1.mono L12.out.size))
  clear l1 K12 L12
  try go_wp2_with fail
  have hc := pick_any D D.F c (DS.new c) now z1 LV13.out.dep (LV13.out.fine LEN.out)
  rw [NP.out] at hc
  refine hc.mono ?_
  clear hc
  rintro r p1 ⟨⟨rv, rfl, rv1⟩, h1, fm⟩
  obtain ⟨A1, m1, e1, P1, q1, f1, rfl, _, _, _, _⟩ := rv1
  change DepM p1 D _ c (DS.new c) at h1
  have LV14 : Hid (Live p1 D lo c (DS.new c)) := Lib.hid (LV13.out.next h1 fm.size LV13.out.ok)
  have K14 : Hid (p1.heap[g]? = some (vobj 24 c.vals)) := Lib.hid ((fm.block g (heap_lt K13.out) (fun hc => by have := FL.out g hc; have := GX.out; omega)).trans K13.out)
  have L14 : Hid (Below w.heap.size w p1) := Lib.hid (L13.out.trans (fm.below L13.out.size (fun j hj hc => by have := FL.out j hc; have := WX.out; omega)))
  clear h1 fm K13 L13 LV13
  try dsimp only
  obtain ⟨d1, hd1⟩ : ∃ g, p1.heap.size = g := ⟨_, rfl⟩
  go_wp2_with (first
    | (refine wpList_alloc_agg rfl 57 rfl d1 hd1 [.slice none 0 0, .slice none 0 0] (allocRs _) ?_; intro u1a kd1 ld1 sd1)
    | (refine wpList_store_agg rfl 57 _ _ rfl d1 [.slice none 0 0, .slice none 0 0] [.slice A1 m1 e1, .slice P1 q1 f1] rfl rfl ?hz rfl sizeRs (onesRs _ _ _ _ _ _) ?_; (case hz => exact kd1); intro u1 kkd1 ffd1 zd1))
  have bb : Below p1.heap.size p1 u1 := (show Below p1.heap.size p1 u1a by rw [hd1]; exact ld1).trans (ffd1.below ld1.size (fun j hj e => by have e' : j = d1 := e; omega))
  have K15 : Hid (u1.heap[g]? = some (vobj 24 c.vals)) := Lib.hid (kb_below K14.out bb)
  have L15 : Hid (Below w.heap.size w u1) := Lib.hid (L14.out.trans (bb.mono L14.out.size))
  have LV15 : Hid (Live u1 D lo c (DS.new c)) := Lib.hid (LV14.out.below bb)
  clear bb kd1 ld1 sd1 kkd1 ffd1 zd1 hd1 K14 L14 LV14
  try go_wp2_with fail
  have hc := answer_any D D.F c (DS.new c) now a1 true none 0 0 [] u1 LV15.out.dep (LV15.out.fine LEN.out) HI.out (RowR.nil _) (fun h => absurd h (by decide)) HN.out
  rw [NA.out] at hc
  refine hc.mono ?_
  clear hc
  rintro r p2 ⟨⟨rv, rfl, rv1⟩, h1, fm⟩
  obtain ⟨A2, m2, e2, P2, q2, f2, rfl, _, _, _, _⟩ := rv1
  change DepM p2 D _ c (DS.new c) at h1
  have LV16 : Hid (Live p2 D lo c (DS.new c)) := Lib.hid (LV15.out.next h1 fm.size LV15.out.ok)
  have K16 : Hid (p2.heap[g]? = some (vobj 24 c.vals)) := Lib.hid ((fm.block g (heap_lt K15.out) (fun hc => by have := FL.out g hc; have := GX.out; omega)).trans K15.out)
  have L16 : Hid (Below w.heap.size w p2) := Lib.hid (L15.out.trans (fm.below L15.out.size (fun j hj hc => by have := FL.out j hc; have := WX.out; omega)))
  clear h1 fm K15 L15 LV15
  try dsimp only
  obtain ⟨d2, hd2⟩ : ∃ g, p2.heap.size = g := ⟨_, rfl⟩
  go_wp2_with (first
    | (refine wpList_alloc_agg rfl 57 rfl d2 hd2 [.slice none 0 0, .slice none 0 0] (allocRs _) ?_; intro u2a kd2 ld2 sd2)
    | (refine wpList_store_agg rfl 57 _ _ rfl d2 [.slice none 0 0, .slice none 0 0] [.slice A2 m2 e2, .slice P2 q2 f2] rfl rfl ?hz rfl sizeRs (onesRs _ _ _ _ _ _) ?_; (case hz => exact kd2); intro u2 kkd2 ffd2 zd2))
  have bb : Below p2.heap.size p2 u2 := (show Below p2.heap.size p2 u2a by rw [hd2]; exact ld2).trans (ffd2.below ld2.size (fun j hj e => by have e' : j = d2 := e; omega))
  have K17 : Hid (u2.heap[g]? = some (vobj 24 c.vals)) := Lib.hid (kb_below K16.out bb)
  have L17 : Hid (Below w.heap.size w u2) := Lib.hid (L16.out.trans (bb.mono L16.out.size))
  have LV17 : Hid (Live u2 D lo c (DS.new c)) := Lib.hid (LV16.out.below bb)
  clear bb kd2 ld2 sd2 kkd2 ffd2 zd2 hd2 K16 L16 LV16
  try go_wp2_with fail
  have hc := fallback_any D D.F c (DS.new c) now a1 1 true none 0 0 [] u2 LV17.out.dep (LV17.out.fine LEN.out) HI.out (wf64_lit (k := 1) (by decide) (by decide)) (RowR.nil _) (fun h => absurd h (by decide)) HN.out
  rw [NF.out] at hc
  refine hc.mono ?_
  clear hc
  rintro r p3 ⟨⟨rv, rfl, rv1⟩, h1, fm⟩
  obtain ⟨A3, m3, e3, P3, q3, f3, rfl, _, _, _, _⟩ := rv1
  change DepM p3 D _ c (DS.new c) at h1
  have LV18 : Hid (Live p3 D lo c (DS.new c)) := Lib.hid (LV17.out.next h1 fm.size LV17.out.ok)
  have K18 : Hid (p3.heap[g]? = some (vobj 24 c.vals)) := Lib.hid ((fm.block g (heap_lt K17.out) (fun hc => by have := FL.out g hc; have := GX.out; omega)).trans K17.out)
  have L18 : Hid (Below w.heap.size w p3) := Lib.hid (L17.out.trans (fm.below L17.out.size (fun j hj hc => by have := FL.out j hc; have := WX.out; omega)))
  clear h1 fm K17 L17 LV17
  try dsimp only
  obtain ⟨d3, hd3⟩ : ∃ g, p3.heap.size = g := ⟨_, rfl⟩
  go_wp2_with (first
    | (refine wpList_alloc_agg rfl 57 rfl d3 hd3 [.slice none 0 0, .slice none 0 0] (allocRs _) ?_; intro u3a kd3 ld3 sd3)
    | (refine wpList_store_agg rfl 57 _ _ rfl d3 [.slice none 0 0, .slice none 0 0] [.slice A3 m3 e3, .slice P3 q3 f3] rfl rfl ?hz rfl sizeRs (onesRs _ _ _ _ _ _) ?_; (case hz => exact kd3); intro u3 kkd3 ffd3 zd3))
  have bb : Below p3.heap.size p3 u3 := (show Below p3.heap.size p3 u3a by rw [hd3]; exact ld3).trans (ffd3.below ld3.size (fun j hj e => by have e' : j = d3 := e; omega))
  have K19 : Hid (u3.heap[g]? = some (vobj 24 c.vals)) := Lib.hid (kb_below K18.out bb)
  have L19 : Hid (Below w.heap.size w u3) := Lib.hid (L18.out.trans (bb.mono L18.out.size))
  have LV19 : Hid (Live u3 D lo c (DS.new c)) := Lib.hid (LV18.out.below bb)
  clear bb kd3 ld3 sd3 kkd3 ffd3 zd3 hd3 K18 L18 LV18
  try go_wp2_with fail
  have hc := offer_any D D.F c (DS.new c) now none 0 0 none 0 0 [] [] u3 LV19.out.dep (LV19.out.fine LEN.out) ⟨RowR.nil _, RowR.nil _, Nat.le_refl _, Nat.le_refl _, fun x hx => (by cases hx)⟩ (by decide) (by decide) HN.out
  rw [NO.out] at hc
  refine hc.mono ?_
  clear hc
  rintro r p4 ⟨⟨rv, rfl, rv1⟩, h1, fm⟩
  obtain ⟨A4, m4, e4, P4, q4, f4, rfl, _, _, _, _⟩ := rv1
  change DepM p4 D _ c (DS.new c) at h1
  have LV20 : Hid (Live p4 D lo c (DS.new c)) := Lib.hid (LV19.out.next h1 fm.size LV19.out.ok)
  have K20 : Hid (p4.heap[g]? = some (vobj 24 c.vals)) := Lib.hid ((fm.block g (heap_lt K19.out) (fun hc => by have := FL.out g hc; have := GX.out; omega)).trans K19.out)
  have L20 : Hid (Below w.heap.size w p4) := Lib.hid (L19.out.trans (fm.below L19.out.size (fun j hj hc => by have := FL.out j hc; have := WX.out; omega)))
  clear h1 fm K19 L19 LV19
  try dsimp only
  obtain ⟨d4, hd4⟩ : ∃ g, p4.heap.size = g := ⟨_, rfl⟩
  go_wp2_with (first
    | (refine wpList_alloc_agg rfl 57 rfl d4 hd4 [.slice none 0 0, .slice none 0 0] (allocRs _) ?_; intro u4a kd4 ld4 sd4)
    | (refine wpList_store_agg rfl 57 _ _ rfl d4 [.slice none 0 0, .slice none 0 0] [.slice A4 m4 e4, .slice P4 q4 f4] rfl rfl ?hz rfl sizeRs (onesRs _ _ _ _ _ _) ?_; (case hz => exact kd4); intro u4 kkd4 ffd4 zd4; have KU : u4.heap[g]? = some (vobj 24 c.vals) := kb_below K20.out ((show Below p4.heap.size p4 u4a by rw [hd4]; exact ld4).trans (ffd4.below ld4.size (fun j hj e => by have e' : j = d4 := e; omega))))
    | (refine wpList_load_aggG rfl 24 _ rfl g rfl c.vals KU _ HU.out rfl (sizeC _) ?_))
  have bb : Below p4.heap.size p4 u4 := (show Below p4.heap.size p4 u4a by rw [hd4]; exact ld4).trans (ffd4.below ld4.size (fun j hj e => by have e' : j = d4 := e; omega))
  clear KU
  have K21 : Hid (u4.heap[g]? = some (vobj 24 c.vals)) := Lib.hid (kb_below K20.out bb)
  have L21 : Hid (Below w.heap.size w u4) := Lib.hid (L20.out.trans (bb.mono L20.out.size))
  have LV21 : Hid (Live u4 D lo c (DS.new c)) := Lib.hid (LV20.out.below bb)
  clear bb kd4 ld4 sd4 kkd4 ffd4 zd4 hd4 K20 L20 LV20
  have HB0 : Hid (c.bad = 0) := Lib.hid hbad
  refine (rcheck_any c u4 c.bad rfl).mono ?_
  rintro r q0 ⟨rfl, l1⟩
  rw [HB0.out]
  have K22 : Hid (q0.heap[g]? = some (vobj 24 c.vals)) := Lib.hid (kb_below K21.out l1)
  have L22 : Hid (Below w.heap.size w q0) := Lib.hid (L21.out.trans (l1.mono L21.out.size))
  have LV22 : Hid (Live q0 D lo c (DS.new c)) := Lib.hid (LV21.out.below l1)
  clear l1 K21 L21 LV21
  try go_wp2_with fail
  refine (knows_any D D.F c (DS.new c) a1 q0 LV22.out.dep HI.out).mono ?_
  rintro r q1 ⟨rfl, l1⟩
  rw [NK.out]
  have K23 : Hid (q1.heap[g]? = some (vobj 24 c.vals)) := Lib.hid (kb_below K22.out l1)
  have L23 : Hid (Below w.heap.size w q1) := Lib.hid (L22.out.trans (l1.mono L22.out.size))
  have LV23 : Hid (Live q1 D lo c (DS.new c)) := Lib.hid (LV22.out.below l1)
  clear l1 K22 L22 LV22
  try go_wp2_with fail
  refine (snap_any D D.F c (DS.new c) now q1 LV23.out.dep HN.out).mono ?_
  rintro r q2 ⟨rfl, _, fl⟩
  have L9 : Hid (Below w.heap.size w q2) := Lib.hid (L23.out.trans ((fl.mono (fun j _ hj => DB.L_F hj)).below L23.out.size (fun j hj hc => by have := FL.out j hc; have := WX.out; omega)))
  have FS := fieldSn3
  have hcs : (((DS.new c).look c now).snap c).calls = 0 := rfl
  have FS0 : ∀ v : World, (Instr.field 75 (.agg (aggV (snapL (((DS.new c).look c now).snap c)))) 3).run Tryz.prog v = .ok (.int .i64 0) v := fun v => by rw [FS, hcs]
  clear FS hcs
  go_wp2
  go_ret
  exact ⟨rfl, L9.out⟩

set_option maxRecDepth 100000 in
theorem lifted (os : Os) (started : os.Started) (H : Type) (enc : TypeId × Value → H) :
    ReturnsInHanded {} Tryz.checked os 9 .any (Rows.depNobodySpec.pre6 enc Tryz.prog Tryz.f9 Rows.depNobodyRow.domain false) (Rows.depNobodySpec.post enc Tryz.prog Tryz.f9 false true false false) := by
  refine returnsInHanded_of_change_sized (C := Tryz.checked) own started (by kernel_rfl) Tryz.func9
    (ChangeSpec.witness6 (enc := enc) (C := Tryz.checked) false ⟨#[], #[.agg #[.int .i64 0, .int .i64 0, .int .i64 0, .int .i64 0, .int .i64 0, .int .i64 0, .int .u64 0, .int .u64 0, .int .i64 0, .int .i64 0, .int .u64 0, .int .i64 0, .int .u64 0, .int .u64 0, .int .i64 0, .int .i64 0], .int .i64 0, .int .u64 0], []⟩ 8 (by kernel_rfl) (by kernel_rfl) (by kernel_rfl) (by kernel_rfl)) ?_
  intro W base args ds gs before hval0 hW hcnd hsz0 _
  have hval : ∀ (j : Nat) t v, Tryz.f9.params[j]? = some t → args[j]? = some v → Value.okWide Tryz.prog W .any base t v := hval0
  have hsz : (DataW.weightsEach Tryz.prog (Tryz.f9.params.toList ++ Rows.depNobodySpec.plain.varTypes Tryz.prog) (ds ++ gs)).all (· ≤ reachBytes) = true := hsz0
  have hW' := hW
  obtain ⟨p, q, hA0, hV, rfl, hfz, hnd⟩ := hW
  have hA : DataW.TrodAll enc Tryz.prog W 0 (fun _ => true) true Tryz.f9.params.toList args.toList ds p := hA0
  rw [Tryz.params9] at hA hval hsz
  have hAk := hA
  obtain ⟨v0, vs0, d0, ds0, p0, q0, hargs, rfl, rfl, h0, r0⟩ := trodAll_cons hA
  obtain ⟨v1, vs1, d1, ds1, p1, q1, rfl, rfl, rfl, h1, r1⟩ := trodAll_cons r0
  obtain ⟨v2, vs2, d2, ds2, p2, q2, rfl, rfl, rfl, h2, r2⟩ := trodAll_cons r1
  obtain ⟨rfl, rfl, rfl⟩ := trodAll_nil r2
  obtain rfl : args = #[v0, v1, v2] := by cases args; simp_all
  obtain ⟨rfl, rfl⟩ := trodVars_none hV
  obtain ⟨c0, rfl, w0⟩ := open_flat (ks := [.int .i64, .int .i64, .int .i64, .int .i64, .int .i64, .int .i64, .int .u64, .int .u64, .int .i64, .int .i64, .int .u64, .int .i64, .int .u64, .int .u64, .int .i64, .int .i64]) 8 (by kernel_rfl) (by kernel_rfl) (hval 0 24 v0 rfl rfl) h0
  obtain ⟨a1, rfl, rfl, rfl, w1⟩ := open_int Tryz.underlying3 (hval 1 3 v1 rfl rfl) h1
  obtain ⟨a2, rfl, rfl, rfl, w2⟩ := open_int Tryz.underlying22 (hval 2 22 v2 rfl rfl) h2
  clear hA0 hval0 hsz0
  refine (walk W c0 w0 a1 w1 a2 w2).mono fun e W' ⟨he, bel⟩ => ?_
  subst he
  exact ⟨_, rfl, _, _, _, [], _, [], hW', trodAll_mk1 (shut_bool Tryz.underlying4 _), trodAll_below laidOut bel _ _ _ _ (by kernel_rfl) hAk, rfl, bel.frame _, fun h => by cases h⟩

theorem over : Rows.depNobodyRow.holds Tryz.pinned (OpenSpec.ofChange Rows.depNobodySpec) :=
  OpenClaim.holds_of_wide 9 Tryz.f9 rfl rfl rfl rfl rfl rfl rfl ⟨rfl, rfl, rfl, rfl, rfl⟩ rfl rfl rfl rfl rfl (by kernel_rfl) Tryz.func9 (by kernel_rfl)
    (of_decide_eq_true (by kernel_rfl)) (by unfold Func.isWrapper; first | (rw [if_pos (by decide +kernel)]; kernel_rfl) | (rw [if_neg (by decide +kernel)]; exact ⟨rfl, rfl⟩))
    (fun os started H enc _ => lifted os started H enc)

theorem proved : Rows.DepNobodySaid := over
#print axioms proved
end Go.Proofs.YtgnccpmkdgfjeaaGreat.depNobody
