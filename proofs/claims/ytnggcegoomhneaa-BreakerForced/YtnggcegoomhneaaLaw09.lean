/- Contracts of porpoiselaw09's helpers: conf, awake, do; a breaker that a call made. -/
import Derived.Test.YtnggcegoomhneaaBrkDo
import Derived.Test.YtnggcegoomhneaaRef09
namespace Go.Proofs.Ytnggcegoomhneaa
set_option linter.unusedVariables false
open Go.ChangeShapes Go.WideShapes Go.ChangeAt Go.RowKit

def u64B (n : Int) : Prop := 0 ≤ n ∧ n ≤ 18446744073709551615
/-- A breaker that was made since w0; of what was there ahead of it nothing has turned. -/
structure OwB (w0 w : World) (b : Nat) (x : BK) : Prop where
  brk : Brk w b x
  low : Below w0.heap.size w0 w
  at_ : w0.heap.size ≤ b
  fits : x.Fits
section
variable {w0 w w' : World} {b : Nat} {x y : BK}
theorem OwB.below (h : OwB w0 w b x) (hb : Below w.heap.size w w') : OwB w0 w' b x := ⟨h.brk.below hb, h.low.trans (hb.mono h.low.size), h.at_, h.fits⟩
theorem OwB.ali (h : OwB w0 w b x) (ha : Ali w w') : OwB w0 w' b x := h.below (ali_below ha)
theorem OwB.after (h : OwB w0 w b x) (hf : Frm (· = b) w w') (hr : Brk w' b y) (hy : y.Fits) : OwB w0 w' b y :=
  ⟨hr, h.low.trans (hf.below h.low.size (fun j hj e => by have := h.at_; omega)), h.at_, hy⟩
/-- A block that the call made, and that isn't the breaker's, has turned. -/
theorem OwB.beside {g : Nat} (h : OwB w0 w b x) (hf : Frm (· = g) w w') (hg : w0.heap.size ≤ g) (hn : b ≠ g) : OwB w0 w' b x :=
  ⟨h.brk.frm hf hn, h.low.trans (hf.below h.low.size (fun j hj e => by omega)), h.at_, h.fits⟩
end
theorem ob_new (w0 w : World) (c : Cnf) (hc : c.Fits) (hb : Below w0.heap.size w0 w) :
    Calls Try.prog 10 #[.agg (aggV c.vals)] w fun r w' => ∃ b, r = .returned (.pointer (some ⟨b, 0, none⟩)) ∧ w.heap.size ≤ b ∧ OwB w0 w' b (BK.ofC c) ∧ Below w.heap.size w w' := by
  refine (new_brk c w).mono ?_
  rintro r w' ⟨b, rfl, hs, hr, hb'⟩
  exact ⟨b, rfl, hs, ⟨hr, hb.trans (hb'.mono hb.size), Nat.le_trans hb.size hs, BK.ofC_fits hc⟩, hb'⟩
theorem ob_ask (w0 : World) (b : Nat) (now : Int) (x : BK) (w : World) (h : OwB w0 w b x) (hn : u64B now) (n : Int) (y : BK) (h1 : x.asked now = n) (h2 : x.ask now = y) :
    Calls Try.prog 19 #[.pointer (some ⟨b, 0, none⟩), .int .u64 now] w fun r w' => r = .returned (.int .i64 n) ∧ OwB w0 w' b y ∧ Frm (· = b) w w' := by
  subst h1 h2
  refine (ask_brk b now x w h.brk h.fits hn).mono ?_
  rintro r w' ⟨rfl, hr, hf⟩
  exact ⟨rfl, h.after hf hr (BK.ask_fits h.fits now), hf⟩
theorem ob_trip (w0 : World) (b : Nat) (now : Int) (x : BK) (w : World) (h : OwB w0 w b x) (hn : u64B now) (n : Bool) (y : BK) (h1 : x.trips = n) (h2 : x.trip now = y) :
    Calls Try.prog 18 #[.pointer (some ⟨b, 0, none⟩), .int .u64 now] w fun r w' => r = .returned (.bool n) ∧ OwB w0 w' b y ∧ Frm (· = b) w w' := by
  subst h1 h2
  refine (trip_brk b now x w h.brk).mono ?_
  rintro r w' ⟨rfl, hr, hf⟩
  exact ⟨rfl, h.after hf hr (BK.trip_fits h.fits hn), hf⟩
theorem ob_done (w0 : World) (b : Nat) (now : Int) (ok : Bool) (x : BK) (w : World) (h : OwB w0 w b x) (hn : u64B now) (n : Bool) (y : BK) (h1 : x.half = n) (h2 : x.done now ok = y) :
    Calls Try.prog 20 #[.pointer (some ⟨b, 0, none⟩), .int .u64 now, .bool ok] w fun r w' => r = .returned (.bool n) ∧ OwB w0 w' b y ∧ Frm (· = b) w w' := by
  subst h1 h2
  refine (done_brk b now ok x w h.brk).mono ?_
  rintro r w' ⟨rfl, hr, hf⟩
  exact ⟨rfl, h.after hf hr (BK.done_fits h.fits hn ok), hf⟩
theorem ob_back (w0 : World) (b : Nat) (x : BK) (w : World) (h : OwB w0 w b x) (n : Bool) (y : BK) (h1 : x.half = n) (h2 : x.back = y) :
    Calls Try.prog 21 #[.pointer (some ⟨b, 0, none⟩)] w fun r w' => r = .returned (.bool n) ∧ OwB w0 w' b y ∧ Frm (· = b) w w' := by
  subst h1 h2
  refine (back_brk b x w h.brk).mono ?_
  rintro r w' ⟨rfl, hr, hf⟩
  exact ⟨rfl, h.after hf hr (BK.back_fits h.fits), hf⟩
theorem ob_state (w0 : World) (b : Nat) (x : BK) (w : World) (h : OwB w0 w b x) (n : Int) (h1 : x.state = n) :
    Calls Try.prog 14 #[.pointer (some ⟨b, 0, none⟩)] w fun r w' => r = .returned (.int .i64 n) ∧ w = w' := by subst h1; exact (state_brk b x w h.brk).mono (fun _ _ ⟨h, k⟩ => ⟨h, k.symm⟩)
theorem ob_since (w0 : World) (b : Nat) (x : BK) (w : World) (h : OwB w0 w b x) (n : Int) (h1 : x.since = n) :
    Calls Try.prog 15 #[.pointer (some ⟨b, 0, none⟩)] w fun r w' => r = .returned (.int .u64 n) ∧ w = w' := by subst h1; exact (since_brk b x w h.brk).mono (fun _ _ ⟨h, k⟩ => ⟨h, k.symm⟩)

/-- The configuration that sleeps so long, forced so. -/
def confC (sleep force : Int) : Cnf := { Cnf.zero with sleep := sleep, force := force }
theorem confC_fits {s f : Int} (hs : u64B s) (hf : 0 ≤ f ∧ f ≤ 2) : (confC s f).Fits := by
  constructor
  all_goals first | exact hs | (show _ ≤ (0 : Int) ∧ (0 : Int) ≤ _; decide) | (show _ ≤ f ∧ f ≤ _; omega)
set_option maxRecDepth 100000 in
set_option maxHeartbeats 1000000 in
theorem conf_any (s f : Int) (w : World) (hf : f = 0 ∨ f = 1 ∨ f = 2) :
    Calls Try.prog 17 #[.int .u64 s, .int .u8 f] w fun r w' => r = .returned (.agg (aggV (confC s f).vals)) ∧ Below w.heap.size w w' := by
  obtain ⟨g, hg⟩ : ∃ g, w.heap.size = g := ⟨_, rfl⟩
  rcases hf with rfl | rfl | rfl
  all_goals
    go_enter Try.func17, Try.ntmps17
    go_wp2_with (first
      | (refine wpList_alloc_agg rfl 24 rfl g hg Cnf.zero.vals (allocC _) ?_; intro w1 h1 l1 s1)
      | (refine wpList_build_agg rfl 24 _ rfl (confC s _).vals ?hb ?_; (case hb => kernel_rfl))
      | (refine wpList_store_agg rfl 24 _ _ rfl g Cnf.zero.vals (confC s _).vals rfl rfl ?hz rfl (sizeC _) (Cnf.ones_vals _) ?_; (case hz => exact h1); intro w2 h2 f2 s2))
    refine bodyPost_ret (v := .agg (aggV (confC s _).vals)) (results_agg Try.results17 rfl (loadC h2)) rfl ⟨rfl, ?_⟩
    subst hg
    exact l1.trans (f2.below (by omega) (fun j hj e => by omega))


set_option maxRecDepth 100000 in
set_option maxHeartbeats 2000000 in
theorem awake_any (w : World) : Calls Try.prog 9 #[] w fun r w' => r = .returned (.bool true) ∧ Below w.heap.size w w' := by
  go_enter Try.func9, Try.ntmps9
  go_wp2_with (refine wpList_build_agg rfl 24 _ rfl (confC 10 0).vals ?hb ?_; (case hb => kernel_rfl))
  refine (ob_new w w (confC 10 0) (confC_fits ⟨by omega, by omega⟩ (by omega)) (Below.refl _ _)).mono ?_
  rintro r w1 ⟨b, rfl, _, h1, _⟩
  have H1 : Hid (OwB w w1 b ⟨10, 0, 1, 0⟩) := Lib.hid h1
  clear h1
  go_wp2_with fail
  refine (ob_ask w b 0 ⟨10, 0, 1, 0⟩ w1 H1.out ⟨by omega, by omega⟩ 1 ⟨10, 0, 1, 0⟩ rfl rfl).mono ?_
  rintro r w2 ⟨rfl, h2, _⟩
  have H2 := Lib.hid h2
  clear h2 H1
  go_wp2_with fail
  refine (ob_trip w b 5 ⟨10, 0, 1, 0⟩ w2 H2.out ⟨by omega, by omega⟩ true ⟨10, 0, 2, 5⟩ rfl rfl).mono ?_
  rintro r w3 ⟨rfl, h3, _⟩
  have H3 := Lib.hid h3
  clear h3 H2
  go_wp2_with fail
  refine (ob_ask w b 14 ⟨10, 0, 2, 5⟩ w3 H3.out ⟨by omega, by omega⟩ 3 ⟨10, 0, 2, 5⟩ rfl rfl).mono ?_
  rintro r w4 ⟨rfl, h4, _⟩
  have H4 := Lib.hid h4
  clear h4 H3
  go_wp2_with fail
  refine (ob_ask w b 15 ⟨10, 0, 2, 5⟩ w4 H4.out ⟨by omega, by omega⟩ 2 ⟨10, 0, 3, 5⟩ rfl rfl).mono ?_
  rintro r w5 ⟨rfl, h5, _⟩
  have H5 := Lib.hid h5
  clear h5 H4
  go_wp2_with fail
  refine (ob_ask w b 16 ⟨10, 0, 3, 5⟩ w5 H5.out ⟨by omega, by omega⟩ 3 ⟨10, 0, 3, 5⟩ rfl rfl).mono ?_
  rintro r w6 ⟨rfl, h6, _⟩
  have H6 := Lib.hid h6
  clear h6 H5
  go_wp2_with fail
  refine (ob_state w b ⟨10, 0, 3, 5⟩ w6 H6.out 3 rfl).mono ?_
  rintro r wx ⟨rfl, rfl⟩
  go_wp2_with fail
  refine (ob_done w b 20 false ⟨10, 0, 3, 5⟩ w6 H6.out ⟨by omega, by omega⟩ true ⟨10, 0, 2, 20⟩ rfl rfl).mono ?_
  rintro r w7 ⟨rfl, h7, _⟩
  have H7 := Lib.hid h7
  clear h7 H6
  go_wp2_with fail
  refine (ob_state w b ⟨10, 0, 2, 20⟩ w7 H7.out 2 rfl).mono ?_
  rintro r wx ⟨rfl, rfl⟩
  go_wp2_with fail
  refine (ob_since w b ⟨10, 0, 2, 20⟩ w7 H7.out 20 rfl).mono ?_
  rintro r wx ⟨rfl, rfl⟩
  go_wp2_with fail
  refine (ob_ask w b 30 ⟨10, 0, 2, 20⟩ w7 H7.out ⟨by omega, by omega⟩ 2 ⟨10, 0, 3, 20⟩ rfl rfl).mono ?_
  rintro r w8 ⟨rfl, h8, _⟩
  have H8 := Lib.hid h8
  clear h8 H7
  go_wp2_with fail
  refine (ob_done w b 31 true ⟨10, 0, 3, 20⟩ w8 H8.out ⟨by omega, by omega⟩ true ⟨10, 0, 1, 20⟩ rfl rfl).mono ?_
  rintro r w9 ⟨rfl, h9, _⟩
  have H9 := Lib.hid h9
  clear h9 H8
  go_wp2_with fail
  refine (ob_state w b ⟨10, 0, 1, 20⟩ w9 H9.out 1 rfl).mono ?_
  rintro r wx ⟨rfl, rfl⟩
  go_wp2
  go_ret
  exact ⟨rfl, H9.out.low⟩


set_option maxRecDepth 100000 in
set_option maxHeartbeats 2000000 in
theorem do_ask (w0 : World) (b : Nat) (now T : Int) (ok : Bool) (x : BK) (w : World) (h : OwB w0 w b x) (hn : u64B now) :
    Calls Try.prog 13 #[.pointer (some ⟨b, 0, none⟩), .agg (aggV x.vals), .int .u64 now, .agg #[.int .i64 1, .int .u64 T, .bool ok]] w fun r w' => r = .returned (.tuple #[.agg (aggV (x.ask now).vals), .bool true]) ∧ OwB w0 w' b (x.ask now) ∧ Frm (· = b) w w' := by
  obtain ⟨fs, hu⟩ := undB
  have HU := Lib.hid hu
  clear hu
  obtain ⟨g, hg⟩ : ∃ g, w.heap.size = g := ⟨_, rfl⟩
  have HO := Lib.hid h
  have HN := Lib.hid hn
  clear h hn
  go_enter Try.func13, Try.ntmps13
  go_wp2_with (first
    | (refine wpList_box_agg rfl 30 _ rfl g hg x.vals rfl ?_; intro w1 h1 l1 t1)
    | (refine wpList_box_agg rfl 34 _ rfl (g + 1) t1 [.int .i64 1, .int .u64 T, .bool ok] rfl ?_; intro w2 d2 l2 t2)
    | (refine wpList_alloc_agg rfl 30 rfl (g + 2) t2 BK.zero.vals (allocB _) ?_; intro w3 k3 l3 t3;
       have h3 : w3.heap[g]? = some (vobj 30 x.vals) := ((l3.block g (by omega)).trans (l2.block g (by omega))).trans h1;
       have d3 : w3.heap[g + 1]? = some (vobj 34 [.int .i64 1, .int .u64 T, .bool ok]) := (l3.block (g + 1) (by omega)).trans d2;
       have B3 : Hid (Below w.heap.size w w3) := Lib.hid (by rw [hg]; exact (l1.trans (l2.mono (by omega))).trans (l3.mono (by omega)));
       have O3 := Lib.hid (HO.out.below B3.out);
       have e0 : w3.cell? ⟨g + 1, 0, none⟩ = some (.int .i64 1) := vobj_cell d3 rfl;
       have e2 : w3.cell? ⟨g + 1, 2, none⟩ = some (.bool ok) := vobj_cell d3 rfl;
       clear h1 d2 l1 l2 l3 t1 t2)
    | (go_at_call 19; refine (ob_ask w0 b now x w3 O3.out HN.out _ _ rfl rfl).mono ?_; rintro r w4 ⟨rfl, o4, f4⟩;
       have h4 : w4.heap[g]? = some (vobj 30 x.vals) := O3.out.brk.kept f4 h3 (by decide);
       have k4 : w4.heap[g + 2]? = some (vobj 30 BK.zero.vals) := O3.out.brk.kept f4 k3 (by decide);
       have d4 : w4.heap[g + 1]? = some (vobj 34 [.int .i64 1, .int .u64 T, .bool ok]) := O3.out.brk.kept f4 d3 (by decide);
       have e4 : w4.cell? ⟨g + 1, 2, none⟩ = some (.bool ok) := vobj_cell d4 rfl;
       have s4 : g + 3 ≤ w4.heap.size := Nat.le_trans (by omega) f4.size;
       have O4 := Lib.hid o4; have F4 := Lib.hid f4;
       clear o4 f4 e0 e2 h3 k3 d3 d4)
    | (refine wpList_load_agg rfl 30 _ rfl g rfl x.vals ?hy _ HU.out rfl (sizeB _) ?_; (case hy => exact h4))
    | (go_at_call 22; refine (rask_any now x w4 HO.out.fits HN.out).mono ?_; rintro r w5 ⟨rfl, b5⟩;
       have k5 : w5.heap[g + 2]? = some (vobj 30 BK.zero.vals) := kb_below k4 b5;
       have O5 := Lib.hid (O4.out.below b5); have B5 := Lib.hid b5;
       obtain ⟨g5, hg5⟩ : ∃ g5, w5.heap.size = g5 := ⟨_, rfl⟩;
       have s5 : g + 3 ≤ g5 := (by have := b5.size; omega);
       clear h4 k4 b5 e4)
    | (refine wpList_alloc_agg rfl 30 rfl g5 hg5 BK.zero.vals (allocB _) ?_; intro w6 h6 l6 t6;
       have k6 : w6.heap[g + 2]? = some (vobj 30 BK.zero.vals) := (l6.block (g + 2) (by omega)).trans k5;
       have B6 : Hid (Below w5.heap.size w5 w6) := Lib.hid (by rw [hg5]; exact l6);
       clear k5 l6)
    | (refine wpList_store_agg rfl 30 _ _ rfl g5 BK.zero.vals (x.ask now).vals rfl rfl ?hz rfl (sizeB _) (BK.ones_vals _) ?_; (case hz => exact h6); intro w7 h7 f7 t7;
       have k7 : w7.heap[g + 2]? = some (vobj 30 BK.zero.vals) := (f7.block (g + 2) (by omega) (by show ¬ (g + 2 = g5); omega)).trans k6;
       clear h6 k6)
    | (refine wpList_load_agg rfl 30 _ rfl g5 rfl (x.ask now).vals ?hy _ HU.out rfl (sizeB _) ?_; (case hy => exact h7))
    | (refine wpList_store_agg rfl 30 _ _ rfl (g + 2) BK.zero.vals (x.ask now).vals rfl rfl ?hz rfl (sizeB _) (BK.ones_vals _) ?_; (case hz => exact k7); intro w8 h8 f8 t8))
  refine bodyPost_ret (v := .tuple #[.agg (aggV (x.ask now).vals), .bool true]) (results_agg1 Try.results13 rfl (loadB h8) (by first | rfl | simp)) rfl ⟨rfl, ?_, ?_⟩
  · have hb := HO.out.brk.lt
    have hl := HO.out.low.size
    exact ((O5.out.below B6.out).beside f7 (by omega) (by omega)).beside f8 (by omega) (by omega)
  · have hs3 := B3.out.size
    refine Frm.trans (F' := (· = g + 2)) (Frm.trans (F' := (· = g5)) (((Frm.trans (Frm.of_below B3.out) F4.out (fun _ _ h => h)).then_below B5.out).then_below B6.out) f7 (fun j hj e => ?_)) f8 (fun j hj e => ?_)
    · have e' : j = g5 := e
      exfalso; omega
    · have e' : j = g + 2 := e
      exfalso; omega


set_option maxRecDepth 100000 in
set_option maxHeartbeats 2000000 in
theorem do_trip (w0 : World) (b : Nat) (now T : Int) (ok : Bool) (x : BK) (w : World) (h : OwB w0 w b x) (hn : u64B now) :
    Calls Try.prog 13 #[.pointer (some ⟨b, 0, none⟩), .agg (aggV x.vals), .int .u64 now, .agg #[.int .i64 2, .int .u64 T, .bool ok]] w fun r w' => r = .returned (.tuple #[.agg (aggV (x.trip now).vals), .bool true]) ∧ OwB w0 w' b (x.trip now) ∧ Frm (· = b) w w' := by
  obtain ⟨fs, hu⟩ := undB
  have HU := Lib.hid hu
  clear hu
  obtain ⟨g, hg⟩ : ∃ g, w.heap.size = g := ⟨_, rfl⟩
  have HO := Lib.hid h
  have HN := Lib.hid hn
  clear h hn
  go_enter Try.func13, Try.ntmps13
  go_wp2_with (first
    | (refine wpList_box_agg rfl 30 _ rfl g hg x.vals rfl ?_; intro w1 h1 l1 t1)
    | (refine wpList_box_agg rfl 34 _ rfl (g + 1) t1 [.int .i64 2, .int .u64 T, .bool ok] rfl ?_; intro w2 d2 l2 t2)
    | (refine wpList_alloc_agg rfl 30 rfl (g + 2) t2 BK.zero.vals (allocB _) ?_; intro w3 k3 l3 t3;
       have h3 : w3.heap[g]? = some (vobj 30 x.vals) := ((l3.block g (by omega)).trans (l2.block g (by omega))).trans h1;
       have d3 : w3.heap[g + 1]? = some (vobj 34 [.int .i64 2, .int .u64 T, .bool ok]) := (l3.block (g + 1) (by omega)).trans d2;
       have B3 : Hid (Below w.heap.size w w3) := Lib.hid (by rw [hg]; exact (l1.trans (l2.mono (by omega))).trans (l3.mono (by omega)));
       have O3 := Lib.hid (HO.out.below B3.out);
       have e0 : w3.cell? ⟨g + 1, 0, none⟩ = some (.int .i64 2) := vobj_cell d3 rfl;
       have e2 : w3.cell? ⟨g + 1, 2, none⟩ = some (.bool ok) := vobj_cell d3 rfl;
       clear h1 d2 l1 l2 l3 t1 t2)
    | (go_at_call 18; refine (ob_trip w0 b now x w3 O3.out HN.out _ _ rfl rfl).mono ?_; rintro r w4 ⟨rfl, o4, f4⟩;
       have h4 : w4.heap[g]? = some (vobj 30 x.vals) := O3.out.brk.kept f4 h3 (by decide);
       have k4 : w4.heap[g + 2]? = some (vobj 30 BK.zero.vals) := O3.out.brk.kept f4 k3 (by decide);
       have d4 : w4.heap[g + 1]? = some (vobj 34 [.int .i64 2, .int .u64 T, .bool ok]) := O3.out.brk.kept f4 d3 (by decide);
       have e4 : w4.cell? ⟨g + 1, 2, none⟩ = some (.bool ok) := vobj_cell d4 rfl;
       have s4 : g + 3 ≤ w4.heap.size := Nat.le_trans (by omega) f4.size;
       have O4 := Lib.hid o4; have F4 := Lib.hid f4;
       clear o4 f4 e0 e2 h3 k3 d3 d4)
    | (refine wpList_load_agg rfl 30 _ rfl g rfl x.vals ?hy _ HU.out rfl (sizeB _) ?_; (case hy => exact h4))
    | (go_at_call 23; refine (rtrip_any now x w4).mono ?_; rintro r w5 ⟨rfl, b5⟩;
       have k5 : w5.heap[g + 2]? = some (vobj 30 BK.zero.vals) := kb_below k4 b5;
       have O5 := Lib.hid (O4.out.below b5); have B5 := Lib.hid b5;
       obtain ⟨g5, hg5⟩ : ∃ g5, w5.heap.size = g5 := ⟨_, rfl⟩;
       have s5 : g + 3 ≤ g5 := (by have := b5.size; omega);
       clear h4 k4 b5 e4)
    | (refine wpList_alloc_agg rfl 30 rfl g5 hg5 BK.zero.vals (allocB _) ?_; intro w6 h6 l6 t6;
       have k6 : w6.heap[g + 2]? = some (vobj 30 BK.zero.vals) := (l6.block (g + 2) (by omega)).trans k5;
       have B6 : Hid (Below w5.heap.size w5 w6) := Lib.hid (by rw [hg5]; exact l6);
       clear k5 l6)
    | (refine wpList_store_agg rfl 30 _ _ rfl g5 BK.zero.vals (x.trip now).vals rfl rfl ?hz rfl (sizeB _) (BK.ones_vals _) ?_; (case hz => exact h6); intro w7 h7 f7 t7;
       have k7 : w7.heap[g + 2]? = some (vobj 30 BK.zero.vals) := (f7.block (g + 2) (by omega) (by show ¬ (g + 2 = g5); omega)).trans k6;
       clear h6 k6)
    | (refine wpList_load_agg rfl 30 _ rfl g5 rfl (x.trip now).vals ?hy _ HU.out rfl (sizeB _) ?_; (case hy => exact h7))
    | (refine wpList_store_agg rfl 30 _ _ rfl (g + 2) BK.zero.vals (x.trip now).vals rfl rfl ?hz rfl (sizeB _) (BK.ones_vals _) ?_; (case hz => exact k7); intro w8 h8 f8 t8))
  refine bodyPost_ret (v := .tuple #[.agg (aggV (x.trip now).vals), .bool true]) (results_agg1 Try.results13 rfl (loadB h8) (by first | rfl | simp)) rfl ⟨rfl, ?_, ?_⟩
  · have hb := HO.out.brk.lt
    have hl := HO.out.low.size
    exact ((O5.out.below B6.out).beside f7 (by omega) (by omega)).beside f8 (by omega) (by omega)
  · have hs3 := B3.out.size
    refine Frm.trans (F' := (· = g + 2)) (Frm.trans (F' := (· = g5)) (((Frm.trans (Frm.of_below B3.out) F4.out (fun _ _ h => h)).then_below B5.out).then_below B6.out) f7 (fun j hj e => ?_)) f8 (fun j hj e => ?_)
    · have e' : j = g5 := e
      exfalso; omega
    · have e' : j = g + 2 := e
      exfalso; omega


set_option maxRecDepth 100000 in
set_option maxHeartbeats 2000000 in
theorem do_done (w0 : World) (b : Nat) (now T : Int) (ok : Bool) (x : BK) (w : World) (h : OwB w0 w b x) (hn : u64B now) :
    Calls Try.prog 13 #[.pointer (some ⟨b, 0, none⟩), .agg (aggV x.vals), .int .u64 now, .agg #[.int .i64 3, .int .u64 T, .bool ok]] w fun r w' => r = .returned (.tuple #[.agg (aggV (x.done now ok).vals), .bool true]) ∧ OwB w0 w' b (x.done now ok) ∧ Frm (· = b) w w' := by
  obtain ⟨fs, hu⟩ := undB
  have HU := Lib.hid hu
  clear hu
  obtain ⟨g, hg⟩ : ∃ g, w.heap.size = g := ⟨_, rfl⟩
  have HO := Lib.hid h
  have HN := Lib.hid hn
  clear h hn
  go_enter Try.func13, Try.ntmps13
  go_wp2_with (first
    | (refine wpList_box_agg rfl 30 _ rfl g hg x.vals rfl ?_; intro w1 h1 l1 t1)
    | (refine wpList_box_agg rfl 34 _ rfl (g + 1) t1 [.int .i64 3, .int .u64 T, .bool ok] rfl ?_; intro w2 d2 l2 t2)
    | (refine wpList_alloc_agg rfl 30 rfl (g + 2) t2 BK.zero.vals (allocB _) ?_; intro w3 k3 l3 t3;
       have h3 : w3.heap[g]? = some (vobj 30 x.vals) := ((l3.block g (by omega)).trans (l2.block g (by omega))).trans h1;
       have d3 : w3.heap[g + 1]? = some (vobj 34 [.int .i64 3, .int .u64 T, .bool ok]) := (l3.block (g + 1) (by omega)).trans d2;
       have B3 : Hid (Below w.heap.size w w3) := Lib.hid (by rw [hg]; exact (l1.trans (l2.mono (by omega))).trans (l3.mono (by omega)));
       have O3 := Lib.hid (HO.out.below B3.out);
       have e0 : w3.cell? ⟨g + 1, 0, none⟩ = some (.int .i64 3) := vobj_cell d3 rfl;
       have e2 : w3.cell? ⟨g + 1, 2, none⟩ = some (.bool ok) := vobj_cell d3 rfl;
       clear h1 d2 l1 l2 l3 t1 t2)
    | (go_at_call 20; refine (ob_done w0 b now ok x w3 O3.out HN.out _ _ rfl rfl).mono ?_; rintro r w4 ⟨rfl, o4, f4⟩;
       have h4 : w4.heap[g]? = some (vobj 30 x.vals) := O3.out.brk.kept f4 h3 (by decide);
       have k4 : w4.heap[g + 2]? = some (vobj 30 BK.zero.vals) := O3.out.brk.kept f4 k3 (by decide);
       have d4 : w4.heap[g + 1]? = some (vobj 34 [.int .i64 3, .int .u64 T, .bool ok]) := O3.out.brk.kept f4 d3 (by decide);
       have e4 : w4.cell? ⟨g + 1, 2, none⟩ = some (.bool ok) := vobj_cell d4 rfl;
       have s4 : g + 3 ≤ w4.heap.size := Nat.le_trans (by omega) f4.size;
       have O4 := Lib.hid o4; have F4 := Lib.hid f4;
       clear o4 f4 e0 e2 h3 k3 d3 d4)
    | (refine wpList_load_agg rfl 30 _ rfl g rfl x.vals ?hy _ HU.out rfl (sizeB _) ?_; (case hy => exact h4))
    | (go_at_call 24; refine (rdone_any now ok x w4).mono ?_; rintro r w5 ⟨rfl, b5⟩;
       have k5 : w5.heap[g + 2]? = some (vobj 30 BK.zero.vals) := kb_below k4 b5;
       have O5 := Lib.hid (O4.out.below b5); have B5 := Lib.hid b5;
       obtain ⟨g5, hg5⟩ : ∃ g5, w5.heap.size = g5 := ⟨_, rfl⟩;
       have s5 : g + 3 ≤ g5 := (by have := b5.size; omega);
       clear h4 k4 b5 e4)
    | (refine wpList_alloc_agg rfl 30 rfl g5 hg5 BK.zero.vals (allocB _) ?_; intro w6 h6 l6 t6;
       have k6 : w6.heap[g + 2]? = some (vobj 30 BK.zero.vals) := (l6.block (g + 2) (by omega)).trans k5;
       have B6 : Hid (Below w5.heap.size w5 w6) := Lib.hid (by rw [hg5]; exact l6);
       clear k5 l6)
    | (refine wpList_store_agg rfl 30 _ _ rfl g5 BK.zero.vals (x.done now ok).vals rfl rfl ?hz rfl (sizeB _) (BK.ones_vals _) ?_; (case hz => exact h6); intro w7 h7 f7 t7;
       have k7 : w7.heap[g + 2]? = some (vobj 30 BK.zero.vals) := (f7.block (g + 2) (by omega) (by show ¬ (g + 2 = g5); omega)).trans k6;
       clear h6 k6)
    | (refine wpList_load_agg rfl 30 _ rfl g5 rfl (x.done now ok).vals ?hy _ HU.out rfl (sizeB _) ?_; (case hy => exact h7))
    | (refine wpList_store_agg rfl 30 _ _ rfl (g + 2) BK.zero.vals (x.done now ok).vals rfl rfl ?hz rfl (sizeB _) (BK.ones_vals _) ?_; (case hz => exact k7); intro w8 h8 f8 t8))
  refine bodyPost_ret (v := .tuple #[.agg (aggV (x.done now ok).vals), .bool true]) (results_agg1 Try.results13 rfl (loadB h8) (by first | rfl | simp)) rfl ⟨rfl, ?_, ?_⟩
  · have hb := HO.out.brk.lt
    have hl := HO.out.low.size
    exact ((O5.out.below B6.out).beside f7 (by omega) (by omega)).beside f8 (by omega) (by omega)
  · have hs3 := B3.out.size
    refine Frm.trans (F' := (· = g + 2)) (Frm.trans (F' := (· = g5)) (((Frm.trans (Frm.of_below B3.out) F4.out (fun _ _ h => h)).then_below B5.out).then_below B6.out) f7 (fun j hj e => ?_)) f8 (fun j hj e => ?_)
    · have e' : j = g5 := e
      exfalso; omega
    · have e' : j = g + 2 := e
      exfalso; omega


set_option maxRecDepth 100000 in
set_option maxHeartbeats 2000000 in
theorem do_back (w0 : World) (b : Nat) (now T : Int) (ok : Bool) (x : BK) (w : World) (kd : Int) (k1 : (kd == 1) = false) (k2 : (kd == 2) = false) (k3 : (kd == 3) = false) (h : OwB w0 w b x) (hn : u64B now) :
    Calls Try.prog 13 #[.pointer (some ⟨b, 0, none⟩), .agg (aggV x.vals), .int .u64 now, .agg #[.int .i64 kd, .int .u64 T, .bool ok]] w fun r w' => r = .returned (.tuple #[.agg (aggV (x.back).vals), .bool true]) ∧ OwB w0 w' b (x.back) ∧ Frm (· = b) w w' := by
  obtain ⟨fs, hu⟩ := undB
  have HU := Lib.hid hu
  clear hu
  obtain ⟨g, hg⟩ : ∃ g, w.heap.size = g := ⟨_, rfl⟩
  have HO := Lib.hid h
  have HN := Lib.hid hn
  clear h hn
  go_enter Try.func13, Try.ntmps13
  go_wp2_with (first
    | (refine wpList_box_agg rfl 30 _ rfl g hg x.vals rfl ?_; intro w1 h1 l1 t1)
    | (refine wpList_box_agg rfl 34 _ rfl (g + 1) t1 [.int .i64 kd, .int .u64 T, .bool ok] rfl ?_; intro w2 d2 l2 t2)
    | (refine wpList_alloc_agg rfl 30 rfl (g + 2) t2 BK.zero.vals (allocB _) ?_; intro w3 k3 l3 t3;
       have h3 : w3.heap[g]? = some (vobj 30 x.vals) := ((l3.block g (by omega)).trans (l2.block g (by omega))).trans h1;
       have d3 : w3.heap[g + 1]? = some (vobj 34 [.int .i64 kd, .int .u64 T, .bool ok]) := (l3.block (g + 1) (by omega)).trans d2;
       have B3 : Hid (Below w.heap.size w w3) := Lib.hid (by rw [hg]; exact (l1.trans (l2.mono (by omega))).trans (l3.mono (by omega)));
       have O3 := Lib.hid (HO.out.below B3.out);
       have e0 : w3.cell? ⟨g + 1, 0, none⟩ = some (.int .i64 kd) := vobj_cell d3 rfl;
       have e2 : w3.cell? ⟨g + 1, 2, none⟩ = some (.bool ok) := vobj_cell d3 rfl;
       clear h1 d2 l1 l2 l3 t1 t2)
    | (go_at_call 21; refine (ob_back w0 b x w3 O3.out _ _ rfl rfl).mono ?_; rintro r w4 ⟨rfl, o4, f4⟩;
       have h4 : w4.heap[g]? = some (vobj 30 x.vals) := O3.out.brk.kept f4 h3 (by decide);
       have k4 : w4.heap[g + 2]? = some (vobj 30 BK.zero.vals) := O3.out.brk.kept f4 k3 (by decide);
       have d4 : w4.heap[g + 1]? = some (vobj 34 [.int .i64 kd, .int .u64 T, .bool ok]) := O3.out.brk.kept f4 d3 (by decide);
       have e4 : w4.cell? ⟨g + 1, 2, none⟩ = some (.bool ok) := vobj_cell d4 rfl;
       have s4 : g + 3 ≤ w4.heap.size := Nat.le_trans (by omega) f4.size;
       have O4 := Lib.hid o4; have F4 := Lib.hid f4;
       clear o4 f4 e0 e2 h3 k3 d3 d4)
    | (refine wpList_load_agg rfl 30 _ rfl g rfl x.vals ?hy _ HU.out rfl (sizeB _) ?_; (case hy => exact h4))
    | (go_at_call 25; refine (rback_any x w4).mono ?_; rintro r w5 ⟨rfl, b5⟩;
       have k5 : w5.heap[g + 2]? = some (vobj 30 BK.zero.vals) := kb_below k4 b5;
       have O5 := Lib.hid (O4.out.below b5); have B5 := Lib.hid b5;
       obtain ⟨g5, hg5⟩ : ∃ g5, w5.heap.size = g5 := ⟨_, rfl⟩;
       have s5 : g + 3 ≤ g5 := (by have := b5.size; omega);
       clear h4 k4 b5 e4)
    | (refine wpList_alloc_agg rfl 30 rfl g5 hg5 BK.zero.vals (allocB _) ?_; intro w6 h6 l6 t6;
       have k6 : w6.heap[g + 2]? = some (vobj 30 BK.zero.vals) := (l6.block (g + 2) (by omega)).trans k5;
       have B6 : Hid (Below w5.heap.size w5 w6) := Lib.hid (by rw [hg5]; exact l6);
       clear k5 l6)
    | (refine wpList_store_agg rfl 30 _ _ rfl g5 BK.zero.vals (x.back).vals rfl rfl ?hz rfl (sizeB _) (BK.ones_vals _) ?_; (case hz => exact h6); intro w7 h7 f7 t7;
       have k7 : w7.heap[g + 2]? = some (vobj 30 BK.zero.vals) := (f7.block (g + 2) (by omega) (by show ¬ (g + 2 = g5); omega)).trans k6;
       clear h6 k6)
    | (refine wpList_load_agg rfl 30 _ rfl g5 rfl (x.back).vals ?hy _ HU.out rfl (sizeB _) ?_; (case hy => exact h7))
    | (refine wpList_store_agg rfl 30 _ _ rfl (g + 2) BK.zero.vals (x.back).vals rfl rfl ?hz rfl (sizeB _) (BK.ones_vals _) ?_; (case hz => exact k7); intro w8 h8 f8 t8))
  refine bodyPost_ret (v := .tuple #[.agg (aggV (x.back).vals), .bool true]) (results_agg1 Try.results13 rfl (loadB h8) (by first | rfl | simp)) rfl ⟨rfl, ?_, ?_⟩
  · have hb := HO.out.brk.lt
    have hl := HO.out.low.size
    exact ((O5.out.below B6.out).beside f7 (by omega) (by omega)).beside f8 (by omega) (by omega)
  · have hs3 := B3.out.size
    refine Frm.trans (F' := (· = g + 2)) (Frm.trans (F' := (· = g5)) (((Frm.trans (Frm.of_below B3.out) F4.out (fun _ _ h => h)).then_below B5.out).then_below B6.out) f7 (fun j hj e => ?_)) f8 (fun j hj e => ?_)
    · have e' : j = g5 := e
      exfalso; omega
    · have e' : j = g + 2 := e
      exfalso; omega

/-- What a deed makes of it. -/
def BK.deed (x : BK) (kd now : Int) (ok : Bool) : BK := if kd = 1 then x.ask now else if kd = 2 then x.trip now else if kd = 3 then x.done now ok else x.back
theorem do_any (w0 : World) (b : Nat) (kd now T : Int) (ok : Bool) (x : BK) (w : World) (h : OwB w0 w b x) (hn : u64B now) :
    Calls Try.prog 13 #[.pointer (some ⟨b, 0, none⟩), .agg (aggV x.vals), .int .u64 now, .agg #[.int .i64 kd, .int .u64 T, .bool ok]] w fun r w' => r = .returned (.tuple #[.agg (aggV (x.deed kd now ok).vals), .bool true]) ∧ OwB w0 w' b (x.deed kd now ok) ∧ Frm (· = b) w w' := by
  unfold BK.deed
  by_cases k1 : kd = 1
  · subst k1; rw [if_pos rfl]; exact do_ask w0 b now T ok x w h hn
  · rw [if_neg k1]
    by_cases k2 : kd = 2
    · subst k2; rw [if_pos rfl]; exact do_trip w0 b now T ok x w h hn
    · rw [if_neg k2]
      by_cases k3 : kd = 3
      · subst k3; rw [if_pos rfl]; exact do_done w0 b now T ok x w h hn
      · rw [if_neg k3]; exact do_back w0 b now T ok x w kd (by simp [k1]) (by simp [k2]) (by simp [k3]) h hn
end Go.Proofs.Ytnggcegoomhneaa
