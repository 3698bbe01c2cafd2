/- Contracts of porpoiselaw10's helpers: conf, awake, do as it comes. -/
import Derived.Test.YtnmcnniilihecaaLaw10
namespace Go.Proofs.Ytnmcnniilihecaa
set_option linter.unusedVariables false
open Go.ChangeShapes Go.WideShapes Go.ChangeAt Go.RowKit

theorem do_any (w0 : World) (b : Nat) (f : Fb) (S : BU) (X : RK) (kd x : Int) (w : World) (h : OwU w0 w b f S) (hX : X.Is w w0.heap.size S) (hx : wf64 x) :
    Calls Try.prog 12 #[.pointer (some ⟨b, 0, none⟩), .agg (aggV X.vals), .agg #[.int .i64 kd, .int .i64 x]] w fun r w' => ∃ Y : RK, r = .returned (.tuple #[.agg (aggV Y.vals), .bool true]) ∧ Y.Is w' w0.heap.size (S.deed kd x) ∧ OwU w0 w' b f (S.deed kd x) ∧ Frm f.F w w' := by
  unfold BU.deed
  by_cases k1 : kd = 1
  · subst k1; rw [if_pos rfl]; exact do_admit w0 b f S X x w h hX hx
  · rw [if_neg k1]
    by_cases k2 : kd = 2
    · subst k2; rw [if_pos rfl]; exact do_pick w0 b f S X x w h hX hx
    · rw [if_neg k2]
      by_cases k3 : kd = 3
      · subst k3; rw [if_pos rfl]; exact do_drop w0 b f S X x w h hX hx
      · rw [if_neg k3]; exact do_free w0 b f S X x w kd (by simp [k1]) (by simp [k2]) (by simp [k3]) h hX hx
/-- do, its struct's cells written out. -/
theorem do_raw (w0 : World) (b : Nat) (f : Fb) (S : BU) (X : RK) (kd x : Int) (w : World) (h : OwU w0 w b f S) (hX : X.Is w w0.heap.size S) (hx : wf64 x) :
    Calls Try.prog 12 #[.pointer (some ⟨b, 0, none⟩), .agg #[.int .i64 X.most, .int .i64 X.que, .slice X.A X.n X.c, .slice X.B X.m X.d], .agg #[.int .i64 kd, .int .i64 x]] w fun r w' => ∃ Y : RK, r = .returned (.tuple #[.agg #[.int .i64 Y.most, .int .i64 Y.que, .slice Y.A Y.n Y.c, .slice Y.B Y.m Y.d], .bool true]) ∧ Y.Is w' w0.heap.size (S.deed kd x) ∧ OwU w0 w' b f (S.deed kd x) ∧ Frm f.F w w' :=
  do_any w0 b f S X kd x w h hX hx

theorem confP_bulk {n q : Nat} (hn : n ≤ 8) (hq : q ≤ 8) : (confP n q).Bulk n q := ⟨hn, hq, .inl ⟨rfl, rfl, rfl⟩⟩
theorem confS_bulk {n : Nat} (hn : n ≤ 8) : (confS n).Bulk n 0 := ⟨hn, by omega, .inr ⟨rfl, rfl, rfl⟩⟩
set_option maxRecDepth 100000 in
set_option maxHeartbeats 1000000 in
theorem conf_pool (m q : Nat) (w : World) (hm : m ≤ 255) (hq : q ≤ 255) :
    Calls Try.prog 18 #[.bool true, .int .u8 m, .int .u8 q] w fun r w' => r = .returned (.agg (aggV (confP (1 + (m : Int) % 8) ((q : Int) % 9)).vals)) ∧ Below w.heap.size w w' := by
  obtain ⟨g, hg⟩ : ∃ g, w.heap.size = g := ⟨_, rfl⟩
  go_enter Try.func18, Try.ntmps18
  go_wp2_with (first
    | (refine wpList_alloc_agg rfl 24 rfl g hg Cnf.zero.vals (allocC _) ?_; intro w1 h1 l1 s1)
    | (refine wpList_build_agg rfl 24 _ rfl (confP (1 + (m : Int) % 8) ((q : Int) % 9)).vals ?hb ?_; (case hb => kernel_rfl))
    | (refine wpList_store_agg rfl 24 _ _ rfl g Cnf.zero.vals (confP (1 + (m : Int) % 8) ((q : Int) % 9)).vals rfl rfl ?hz rfl (sizeC _) (Cnf.ones_vals _) ?_; (case hz => exact h1); intro w2 h2 f2 s2))
  refine bodyPost_ret (v := .agg (aggV (confP (1 + (m : Int) % 8) ((q : Int) % 9)).vals)) (results_agg Try.results18 rfl (loadC h2)) rfl ⟨rfl, ?_⟩
  subst hg
  exact l1.trans (f2.below (by omega) (fun j hj e => by omega))
set_option maxRecDepth 100000 in
set_option maxHeartbeats 1000000 in
theorem conf_sem (m q : Nat) (w : World) (hm : m ≤ 255) :
    Calls Try.prog 18 #[.bool false, .int .u8 m, .int .u8 q] w fun r w' => r = .returned (.agg (aggV (confS (1 + (m : Int) % 8)).vals)) ∧ Below w.heap.size w w' := by
  obtain ⟨g, hg⟩ : ∃ g, w.heap.size = g := ⟨_, rfl⟩
  go_enter Try.func18, Try.ntmps18
  go_wp2_with (first
    | (refine wpList_alloc_agg rfl 24 rfl g hg Cnf.zero.vals (allocC _) ?_; intro w1 h1 l1 s1)
    | (refine wpList_build_agg rfl 24 _ rfl (confS (1 + (m : Int) % 8)).vals ?hb ?_; (case hb => kernel_rfl))
    | (refine wpList_store_agg rfl 24 _ _ rfl g Cnf.zero.vals (confS (1 + (m : Int) % 8)).vals rfl rfl ?hz rfl (sizeC _) (Cnf.ones_vals _) ?_; (case hz => exact h1); intro w2 h2 f2 s2))
  refine bodyPost_ret (v := .agg (aggV (confS (1 + (m : Int) % 8)).vals)) (results_agg Try.results18 rfl (loadC h2)) rfl ⟨rfl, ?_⟩
  subst hg
  exact l1.trans (f2.below (by omega) (fun j hj e => by omega))
/-- conf, as it comes: of so many workers, and of a queue that is so long. -/
theorem conf_any (pool : Bool) (m q : Int) (w : World) (hm : 0 ≤ m ∧ m ≤ 255) (hq : 0 ≤ q ∧ q ≤ 255) :
    Calls Try.prog 18 #[.bool pool, .int .u8 m, .int .u8 q] w fun r w' => ∃ c : Cnf, r = .returned (.agg (aggV c.vals)) ∧ ∃ n k : Nat, c.Bulk n k ∧ 1 ≤ n ∧ c.pool + c.sem = n ∧ c.queue = k ∧ Below w.heap.size w w' := by
  obtain ⟨m, rfl⟩ : ∃ n : Nat, m = n := ⟨m.toNat, by omega⟩
  obtain ⟨q, rfl⟩ : ∃ n : Nat, q = n := ⟨q.toNat, by omega⟩
  cases pool with
  | true =>
    refine (conf_pool m q w (by omega) (by omega)).mono ?_
    rintro r w' ⟨rfl, hb⟩
    refine ⟨_, rfl, 1 + m % 8, q % 9, ⟨by omega, by omega, .inl ⟨rfl, ?_, ?_⟩⟩, by omega, ?_, ?_, hb⟩
    · show 1 + (m : Int) % 8 = ((1 + m % 8 : Nat) : Int); omega
    · show (q : Int) % 9 = ((q % 9 : Nat) : Int); omega
    · show 1 + (m : Int) % 8 + 0 = ((1 + m % 8 : Nat) : Int); omega
    · show (q : Int) % 9 = ((q % 9 : Nat) : Int); omega
  | false =>
    refine (conf_sem m q w (by omega)).mono ?_
    rintro r w' ⟨rfl, hb⟩
    refine ⟨_, rfl, 1 + m % 8, 0, ⟨by omega, by omega, .inr ⟨rfl, ?_, rfl⟩⟩, by omega, ?_, rfl, hb⟩
    · show 1 + (m : Int) % 8 = ((1 + m % 8 : Nat) : Int); omega
    · show 0 + (1 + (m : Int) % 8) = ((1 + m % 8 : Nat) : Int); omega

/-- A new one. -/
theorem ou_new (w0 w : World) (c : Cnf) (n k : Nat) (hc : c.Bulk n k) (hb : Below w0.heap.size w0 w) :
    Calls Try.prog 10 #[.agg (aggV c.vals)] w fun r w' => ∃ b, r = .returned (.pointer (some ⟨b, 0, none⟩)) ∧ ∃ f : Fb, OwU w0 w' b f (BU.none_ n k) ∧ Below w.heap.size w w' := by
  refine (new_bul c n k w hc).mono ?_
  rintro r w' ⟨b, rfl, f, h1, h2, h3, h4, h5⟩
  have := hb.size
  exact ⟨b, rfl, f, ⟨h1, hb.trans (h2.mono hb.size), by omega, by omega⟩, h2⟩
theorem ou_admit (w0 : World) (b : Nat) (f : Fb) (S : BU) (x : Int) (w : World) (h : OwU w0 w b f S) (hx : wf64 x) (n : Int) (l : List Int) (S' : BU) (h1 : S.tells x = n) (h2 : S.lets x = l) (h3 : S.adm x = S') :
    Calls Try.prog 20 #[.pointer (some ⟨b, 0, none⟩), .int .i64 x] w fun r w' => ∃ A k c, r = .returned (.tuple #[.int .i64 n, .slice A k c]) ∧ Ints w' w0.heap.size (.slice A k c) l ∧ OwU w0 w' b f S' ∧ Frm f.F w w' := by
  subst h1 h2 h3
  refine (admit_bul b f S x w h.bul hx).mono ?_
  rintro r w' ⟨v, rfl, hi, hb, hf⟩
  obtain ⟨A, k, c, hv, _, _, _, _⟩ := own_row' hi
  subst hv
  exact ⟨A, k, c, rfl, hi.mono h.low.size, h.after hf hb, hf⟩
theorem ou_free (w0 : World) (b : Nat) (f : Fb) (S : BU) (x : Int) (w : World) (h : OwU w0 w b f S) (hx : wf64 x) (n : Bool) (S' : BU) (h1 : decide (x ∈ S.run) = n) (h2 : S.free x = S') :
    Calls Try.prog 22 #[.pointer (some ⟨b, 0, none⟩), .int .i64 x] w fun r w' => r = .returned (.bool n) ∧ OwU w0 w' b f S' ∧ Frm f.F w w' := by
  subst h1 h2
  refine (free_bul b f S x w h.bul hx).mono ?_
  rintro r w' ⟨rfl, hb, hf⟩
  exact ⟨rfl, h.after hf hb, hf⟩
theorem ou_drop (w0 : World) (b : Nat) (f : Fb) (S : BU) (x : Int) (w : World) (h : OwU w0 w b f S) (n : Bool) (S' : BU) (h1 : decide (x ∈ S.wait) = n) (h2 : S.drop x = S') :
    Calls Try.prog 23 #[.pointer (some ⟨b, 0, none⟩), .int .i64 x] w fun r w' => r = .returned (.bool n) ∧ OwU w0 w' b f S' ∧ Frm f.F w w' := by
  subst h1 h2
  refine (drop_bul b f S x w h.bul).mono ?_
  rintro r w' ⟨rfl, hb, hf⟩
  exact ⟨rfl, h.after hf hb, hf⟩
theorem ou_pick (w0 : World) (b : Nat) (f : Fb) (S : BU) (w : World) (h : OwU w0 w b f S) (x : Int) (n : Bool) (S' : BU) (h1 : S.first = x) (h2 : S.picked = n) (h3 : S.pick = S') :
    Calls Try.prog 21 #[.pointer (some ⟨b, 0, none⟩)] w fun r w' => r = .returned (.tuple #[.int .i64 x, .bool n]) ∧ OwU w0 w' b f S' ∧ Frm f.F w w' := by
  subst h1 h2 h3
  refine (pick_bul b f S w h.bul).mono ?_
  rintro r w' ⟨rfl, hb, hf⟩
  exact ⟨rfl, h.after hf hb, hf⟩
theorem ou_busy (w0 : World) (b : Nat) (f : Fb) (S : BU) (w : World) (h : OwU w0 w b f S) (n : Nat) (h1 : S.run.length = n) :
    Calls Try.prog 13 #[.pointer (some ⟨b, 0, none⟩)] w fun r w' => r = .returned (.int .i64 n) ∧ w = w' := by
  subst h1; exact busy_bul b f S w h.bul
theorem ou_runs (w0 : World) (b : Nat) (f : Fb) (S : BU) (x : Int) (w : World) (h : OwU w0 w b f S) (hx : wf64 x) (n : Bool) (h1 : decide (x ∈ S.run) = n) :
    Calls Try.prog 14 #[.pointer (some ⟨b, 0, none⟩), .int .i64 x] w fun r w' => r = .returned (.bool n) ∧ Below w.heap.size w w' := by
  subst h1; exact runs_bul b f S x w h.bul hx
theorem ou_waiting (w0 : World) (b : Nat) (f : Fb) (S : BU) (w : World) (h : OwU w0 w b f S) (l : List Int) (h1 : S.wait = l) :
    Calls Try.prog 17 #[.pointer (some ⟨b, 0, none⟩)] w fun r w' => ∃ A k c, r = .returned (.slice A k c) ∧ Ints w' w0.heap.size (.slice A k c) l ∧ Below w.heap.size w w' := by
  subst h1
  refine (waiting_bul b f S w h.bul).mono ?_
  rintro r w' ⟨v, rfl, hi, hb⟩
  obtain ⟨A, k, c, hv, _, _, _, _⟩ := own_row' hi
  subst hv
  exact ⟨A, k, c, rfl, hi.mono h.low.size, hb⟩

set_option maxRecDepth 100000 in
set_option maxHeartbeats 2000000 in
theorem awake_any (w : World) : Calls Try.prog 9 #[] w fun r w' => r = .returned (.bool true) ∧ Below w.heap.size w w' := by
  have n64 : ∀ n : Int, 0 ≤ n → n ≤ 100 → wf64 n := fun n h h' => ⟨by omega, by omega⟩
  go_enter Try.func9, Try.ntmps9
  go_wp2_with fail
  have hc := conf_pool 0 1 w (by omega) (by omega)
  refine hc.mono ?_
  clear hc
  rintro r w1 ⟨rfl, b1⟩
  have B1 := Lib.hid b1
  clear b1
  have he : confP (1 + ((0 : Nat) : Int) % 8) (((1 : Nat) : Int) % 9) = confP ((1 : Nat) : Int) ((1 : Nat) : Int) := rfl
  rw [he]
  clear he
  go_wp2_with fail
  refine (ou_new w w1 _ 1 1 (confP_bulk (by omega) (by omega)) B1.out).mono ?_
  rintro r w2 ⟨b, rfl, f, h2, _⟩
  have H2 : Hid (OwU w w2 b f ⟨1, 1, [], []⟩) := Lib.hid h2
  clear h2
  go_wp2_with fail
  refine (ou_admit w b f ⟨1, 1, [], []⟩ 1 w2 H2.out (n64 _ (by omega) (by omega)) 1 [] ⟨1, 1, [1], []⟩ rfl rfl rfl).mono ?_
  rintro r w3 ⟨A3, k3, c3, rfl, _, h3, _⟩
  have H3 := Lib.hid h3
  clear h3 H2
  go_wp2_with fail
  refine (ou_admit w b f ⟨1, 1, [1], []⟩ 2 w3 H3.out (n64 _ (by omega) (by omega)) 2 [] ⟨1, 1, [1], [2]⟩ rfl rfl rfl).mono ?_
  rintro r w4 ⟨A4, k4, c4, rfl, _, h4, _⟩
  have H4 := Lib.hid h4
  clear h4 H3
  go_wp2_with fail
  refine (ou_admit w b f ⟨1, 1, [1], [2]⟩ 3 w4 H4.out (n64 _ (by omega) (by omega)) 3 [] ⟨1, 1, [1], [2]⟩ rfl rfl rfl).mono ?_
  rintro r w5 ⟨A5, k5, c5, rfl, i5, h5, _⟩
  have hk5 : k5 = 0 := i5.row.2.1.symm
  subst hk5
  have H5 := Lib.hid h5
  clear h5 H4 i5
  go_wp2_with fail
  refine (ou_free w b f ⟨1, 1, [1], [2]⟩ 1 w5 H5.out (n64 _ (by omega) (by omega)) true ⟨1, 1, [], [2]⟩ rfl rfl).mono ?_
  rintro r w6 ⟨rfl, h6, _⟩
  have H6 := Lib.hid h6
  clear h6 H5
  go_wp2_with fail
  refine (ou_admit w b f ⟨1, 1, [], [2]⟩ 3 w6 H6.out (n64 _ (by omega) (by omega)) 2 [2] ⟨1, 1, [2], [3]⟩ rfl rfl rfl).mono ?_
  rintro r w7 ⟨A7, k7, c7, rfl, i7, h7, _⟩
  have H7 := Lib.hid h7
  have I7 := Lib.hid i7
  clear h7 H6 i7
  go_wp2_with fail
  have hs := same_any A7 (some ⟨w7.heap.size, 0, none⟩) k7 c7 1 1 [2] [2] (w7.alloc (.cells #[.int .i64 2] 3)) ((I7.out.below (below_alloc _ _)).row.1) (I7.out.row.2.1) (row_one w7 2 (n64 _ (by omega) (by omega))) rfl
  rw [show decide (([2] : List Int) = [2]) = true by simp] at hs
  refine hs.mono ?_
  clear hs
  rintro r w8 ⟨rfl, a8⟩
  have H8 := Lib.hid ((H7.out.below (below_alloc _ _)).ali a8)
  clear a8 H7
  go_wp2_with fail
  refine (ou_busy w b f ⟨1, 1, [2], [3]⟩ w8 H8.out 1 rfl).mono ?_
  rintro r wx ⟨rfl, rfl⟩
  go_wp2_with fail
  refine (ou_runs w b f ⟨1, 1, [2], [3]⟩ 2 w8 H8.out (n64 _ (by omega) (by omega)) true rfl).mono ?_
  rintro r w9 ⟨rfl, b9⟩
  have H9 := Lib.hid (H8.out.below b9)
  clear b9 H8
  go_wp2_with fail
  refine (ou_waiting w b f ⟨1, 1, [2], [3]⟩ w9 H9.out [3] rfl).mono ?_
  rintro r w10 ⟨A10, k10, c10, rfl, i10, b10⟩
  have H10 := Lib.hid (H9.out.below b10)
  have I10 := Lib.hid i10
  clear i10 b10 H9
  go_wp2_with fail
  have hs := same_any A10 (some ⟨w10.heap.size, 0, none⟩) k10 c10 1 1 [3] [3] (w10.alloc (.cells #[.int .i64 3] 3)) ((I10.out.below (below_alloc _ _)).row.1) (I10.out.row.2.1) (row_one w10 3 (n64 _ (by omega) (by omega))) rfl
  rw [show decide (([3] : List Int) = [3]) = true by simp] at hs
  refine hs.mono ?_
  clear hs
  rintro r w11 ⟨rfl, a11⟩
  have H11 := Lib.hid ((H10.out.below (below_alloc _ _)).ali a11)
  clear a11 H10
  go_wp2
  go_ret
  exact ⟨rfl, H11.out.low⟩
end Go.Proofs.Ytnmcnniilihecaa
