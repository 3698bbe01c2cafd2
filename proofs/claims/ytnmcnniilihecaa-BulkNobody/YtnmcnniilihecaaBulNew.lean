/- Contracts of package bulk: with, New. -/
import Derived.Test.YtnmcnniilihecaaBulAd
import Derived.Test.YtnmcnniilihecaaCnfCell
namespace Go.Proofs.Ytnmcnniilihecaa
set_option linter.unusedVariables false
open Go.ChangeShapes Go.WideShapes Go.ChangeAt Go.RowKit

/-- One of nobody yet. -/
def BU.none_ (most que : Nat) : BU := ⟨most, que, [], []⟩
theorem BU.ok_none {most que : Nat} (hm : most ≤ 8) (hq : que ≤ 8) : (BU.none_ most que).Ok :=
  ⟨List.nodup_nil, List.nodup_nil, fun x hx => by simp [BU.none_] at hx, Nat.zero_le _, Nat.zero_le _, hm, hq, fun x hx => by simp [BU.none_] at hx, fun x hx => by simp [BU.none_] at hx⟩
theorem with_some (most que : Nat) (w : World) (hm : most ≤ 8) (hq : que ≤ 8) :
    Calls Try.prog 25 #[.int .i64 most, .int .i64 que] w fun r w' => ∃ b, r = .returned (.pointer (some ⟨b, 0, none⟩)) ∧ ∃ f : Fb, Bul w' b f (BU.none_ most que) ∧ Below w.heap.size w w' ∧ w.heap.size ≤ b ∧ w.heap.size ≤ f.m ∧ w.heap.size ≤ f.rb := by
  have HP := Lib.hid (new_prm most w hm)
  have OK := Lib.hid (BU.ok_none hm hq)
  have HQ := Lib.hid hq
  clear hm hq
  go_enter Try.func25, Try.ntmps25
  go_wp2_with fail
  refine HP.out.mono ?_
  rintro r w1 ⟨pb, rfl, m, p1, b1, _, hm1⟩
  have P1 := Lib.hid p1
  have B1 := Lib.hid b1
  have M1 := Lib.hid hm1
  have HR := Lib.hid (new_some que w1 HQ.out)
  clear p1 b1 hm1 HP
  go_wp2_with fail
  refine HR.out.mono ?_
  rintro r w2 ⟨rfl, r2, b2⟩
  have h3 : Bul (w2.alloc (bulobj ⟨pb, m, w1.heap.size⟩)) w2.heap.size ⟨pb, m, w1.heap.size⟩ (BU.none_ most que) :=
    ⟨heap_alloc_at _ _, (P1.out.below b2).below (below_alloc _ _), r2.below (below_alloc _ _), OK.out⟩
  have H3 := Lib.hid h3
  have B2 := Lib.hid (B1.out.trans (b2.mono B1.out.size))
  clear r2 b2 h3 HR
  go_wp2
  go_ret
  have s1 := B1.out.size
  have s2 := B2.out.size
  exact ⟨_, rfl, _, H3.out, B2.out.alloc s2 _, s2, M1.out, s1⟩
theorem with_bad (most que : Int) (w : World) (h : (most < 0 ∨ 8 < most) ∨ (que < 0 ∨ 8 < que)) :
    Calls Try.prog 25 #[.int .i64 most, .int .i64 que] w fun r w' => r = .returned (.pointer none) ∧ Below w.heap.size w w' := by
  by_cases hm : most < 0 ∨ 8 < most
  · have HP := Lib.hid (new_bad most w hm)
    clear h hm
    by_cases hq : que < 0 ∨ 8 < que
    · have HR := Lib.hid (new_none que w hq)
      clear hq
      go_enter Try.func25, Try.ntmps25
      go_wp2_with fail
      refine HP.out.mono ?_
      rintro r w1 ⟨rfl, rfl⟩
      go_wp2_with fail
      refine HR.out.mono ?_
      rintro r w2 ⟨rfl, rfl⟩
      go_wp2
      go_ret
      exact ⟨rfl, Below.refl _ _⟩
    · obtain ⟨q, rfl⟩ : ∃ q : Nat, que = q := ⟨que.toNat, by omega⟩
      have HR := Lib.hid (new_some q w (by omega))
      clear hq
      go_enter Try.func25, Try.ntmps25
      go_wp2_with fail
      refine HP.out.mono ?_
      rintro r w1 ⟨rfl, rfl⟩
      go_wp2_with fail
      refine HR.out.mono ?_
      rintro r w2 ⟨rfl, _, b2⟩
      have B2 := Lib.hid b2
      clear b2
      go_wp2
      go_ret
      exact ⟨rfl, B2.out⟩
  · have hq := h.resolve_left hm
    obtain ⟨p, rfl⟩ : ∃ p : Nat, most = p := ⟨most.toNat, by omega⟩
    have HP := Lib.hid (new_prm p w (by omega))
    have HQ := Lib.hid hq
    clear h hm hq
    go_enter Try.func25, Try.ntmps25
    go_wp2_with fail
    refine HP.out.mono ?_
    rintro r w1 ⟨pb, rfl, m, _, b1, _, _⟩
    have B1 := Lib.hid b1
    have HR := Lib.hid (new_none que w1 HQ.out)
    clear b1 HP
    go_wp2_with fail
    refine HR.out.mono ?_
    rintro r w2 ⟨rfl, rfl⟩
    go_wp2
    go_ret
    exact ⟨rfl, B1.out⟩

/-- The configuration is one of so many workers, and of a queue that is so long. -/
def Cnf.Bulk (c : Cnf) (most que : Nat) : Prop := most ≤ 8 ∧ que ≤ 8 ∧ ((c.mode = 1 ∧ c.pool = most ∧ c.queue = que) ∨ (c.mode = 2 ∧ c.sem = most ∧ que = 0))
/-- It is one of none. -/
def Cnf.NoBulk (c : Cnf) : Prop := (c.mode = 1 ∧ ((c.pool < 0 ∨ 8 < c.pool) ∨ (c.queue < 0 ∨ 8 < c.queue))) ∨ (c.mode = 2 ∧ (c.sem < 0 ∨ 8 < c.sem)) ∨ (c.mode ≠ 1 ∧ c.mode ≠ 2)
theorem Cnf.bulk_or (c : Cnf) : (∃ most que, c.Bulk most que) ∨ c.NoBulk := by
  unfold Cnf.Bulk Cnf.NoBulk
  by_cases h1 : c.mode = 1
  · by_cases h2 : 0 ≤ c.pool ∧ c.pool ≤ 8 ∧ 0 ≤ c.queue ∧ c.queue ≤ 8
    · exact .inl ⟨c.pool.toNat, c.queue.toNat, by omega, by omega, .inl ⟨h1, by omega, by omega⟩⟩
    · exact .inr (.inl ⟨h1, by omega⟩)
  · by_cases h2 : c.mode = 2
    · by_cases h3 : 0 ≤ c.sem ∧ c.sem ≤ 8
      · exact .inl ⟨c.sem.toNat, 0, by omega, by omega, .inr ⟨h2, by omega, rfl⟩⟩
      · exact .inr (.inr (.inl ⟨h2, by omega⟩))
    · exact .inr (.inr (.inr ⟨h1, h2⟩))

set_option maxRecDepth 100000 in
set_option maxHeartbeats 1000000 in
theorem new_bul (c : Cnf) (most que : Nat) (w : World) (h : c.Bulk most que) :
    Calls Try.prog 10 #[.agg (aggV c.vals)] w fun r w' => ∃ b, r = .returned (.pointer (some ⟨b, 0, none⟩)) ∧ ∃ f : Fb, Bul w' b f (BU.none_ most que) ∧ Below w.heap.size w w' ∧ w.heap.size ≤ b ∧ w.heap.size ≤ f.m ∧ w.heap.size ≤ f.rb := by
  obtain ⟨hm, hq, h⟩ := h
  obtain ⟨g, hg⟩ : ∃ g, w.heap.size = g := ⟨_, rfl⟩
  have HM := Lib.hid hm
  have HQ := Lib.hid hq
  clear hm hq
  rcases h with ⟨e0, e1, e2⟩ | ⟨e0, e1, e2⟩
  · go_enter Try.func10, Try.ntmps10
    go_wp2_with (first
      | (refine wpList_box_agg rfl 24 _ rfl g hg c.vals rfl ?_; intro w1 h1 l1 s1;
         obtain ⟨c0, c1, c2, c3, _⟩ := Cnf.cells_vals h1;
         rw [e0] at c0; rw [e1] at c1; rw [e2] at c2;
         have L1 := Lib.hid l1;
         clear h1 l1 e0 e1 e2)
      | (go_at_call 25; refine (with_some most que w1 HM.out HQ.out).mono ?_; rintro r w2 ⟨b, rfl, f, h2, b2, hb, hfm, hfr⟩; have H2 := Lib.hid h2; have B2 := Lib.hid b2; have S2 := Lib.hid (And.intro hb (And.intro hfm hfr)); clear h2 b2 hb hfm hfr))
    go_ret
    obtain ⟨q1, q2, q3⟩ := S2.out
    subst hg
    exact ⟨b, rfl, f, H2.out, L1.out.trans (B2.out.mono (by omega)), by omega, by omega, by omega⟩
  · subst e2
    have e01 : (c.mode == 1) = false := by rw [e0]; rfl
    go_enter Try.func10, Try.ntmps10
    go_wp2_with (first
      | (refine wpList_box_agg rfl 24 _ rfl g hg c.vals rfl ?_; intro w1 h1 l1 s1;
         obtain ⟨c0, c1, c2, c3, _⟩ := Cnf.cells_vals h1;
         rw [e0] at c0; rw [e1] at c3;
         have L1 := Lib.hid l1;
         clear h1 l1 e0 e1)
      | (go_at_call 25; refine (with_some most 0 w1 HM.out HQ.out).mono ?_; rintro r w2 ⟨b, rfl, f, h2, b2, hb, hfm, hfr⟩; have H2 := Lib.hid h2; have B2 := Lib.hid b2; have S2 := Lib.hid (And.intro hb (And.intro hfm hfr)); clear h2 b2 hb hfm hfr))
    go_ret
    obtain ⟨q1, q2, q3⟩ := S2.out
    subst hg
    exact ⟨b, rfl, f, H2.out, L1.out.trans (B2.out.mono (by omega)), by omega, by omega, by omega⟩
set_option maxRecDepth 100000 in
set_option maxHeartbeats 1000000 in
theorem new_nobulk (c : Cnf) (w : World) (h : c.NoBulk) :
    Calls Try.prog 10 #[.agg (aggV c.vals)] w fun r w' => r = .returned (.pointer none) ∧ Below w.heap.size w w' := by
  obtain ⟨g, hg⟩ : ∃ g, w.heap.size = g := ⟨_, rfl⟩
  rcases h with ⟨e0, hb⟩ | ⟨e0, hb⟩ | ⟨e0, e1⟩
  · have HB := Lib.hid hb
    clear hb
    go_enter Try.func10, Try.ntmps10
    go_wp2_with (first
      | (refine wpList_box_agg rfl 24 _ rfl g hg c.vals rfl ?_; intro w1 h1 l1 s1;
         obtain ⟨c0, c1, c2, c3, _⟩ := Cnf.cells_vals h1;
         rw [e0] at c0;
         have L1 := Lib.hid l1;
         clear h1 l1 e0)
      | (go_at_call 25; refine (with_bad c.pool c.queue w1 HB.out).mono ?_; rintro r w2 ⟨rfl, b2⟩; have B2 := Lib.hid b2; clear b2))
    go_ret
    subst hg
    exact ⟨rfl, L1.out.trans (B2.out.mono (by omega))⟩
  · have HB := Lib.hid hb
    clear hb
    go_enter Try.func10, Try.ntmps10
    go_wp2_with (first
      | (refine wpList_box_agg rfl 24 _ rfl g hg c.vals rfl ?_; intro w1 h1 l1 s1;
         obtain ⟨c0, c1, c2, c3, _⟩ := Cnf.cells_vals h1;
         rw [e0] at c0;
         have L1 := Lib.hid l1;
         clear h1 l1 e0)
      | (go_at_call 25; refine (with_bad c.sem 0 w1 (.inl HB.out)).mono ?_; rintro r w2 ⟨rfl, b2⟩; have B2 := Lib.hid b2; clear b2))
    go_ret
    subst hg
    exact ⟨rfl, L1.out.trans (B2.out.mono (by omega))⟩
  · have e0' : (c.mode == 1) = false := by simp [e0]
    have e1' : (c.mode == 2) = false := by simp [e1]
    clear e0 e1
    go_enter Try.func10, Try.ntmps10
    go_wp2_with (first
      | (refine wpList_box_agg rfl 24 _ rfl g hg c.vals rfl ?_; intro w1 h1 l1 s1;
         obtain ⟨c0, c1, c2, c3, _⟩ := Cnf.cells_vals h1;
         have L1 := Lib.hid l1;
         clear h1 l1))
    go_ret
    subst hg
    exact ⟨rfl, L1.out⟩
end Go.Proofs.Ytnmcnniilihecaa
