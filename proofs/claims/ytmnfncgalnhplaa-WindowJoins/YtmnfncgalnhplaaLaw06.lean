/- Layer 6's examples' check, the law's times, windows made since a world. -/
import Derived.Test.YtmnfncgalnhplaaWinCount
import Derived.Test.YtmnfncgalnhplaaSame
namespace Go.Proofs.Ytmnfncgalnhplaa
set_option linter.unusedVariables false
open Go.ChangeShapes Go.WideShapes Go.ChangeAt Go.RowKit

/-- A window that was made since w0, and nothing of w0 has turned. -/
structure OwW (w0 w : World) (b B W t : Nat) (F : Cnt) : Prop where
  win : Win w b B W t F
  low : Below w0.heap.size w0 w
  new : w0.heap.size ≤ b
section
variable {w0 w w' : World} {b B W t t' : Nat} {F F' : Cnt}
theorem OwW.after (h : OwW w0 w b B W t F) (hf : Frm (· = b) w w') (hw : Win w' b B W t' F') : OwW w0 w' b B W t' F' :=
  ⟨hw, h.low.trans (hf.below h.low.size (fun j hj e => by have := h.new; omega)), h.new⟩
/-- Beside another one. -/
theorem OwW.beside (h : OwW w0 w b B W t F) {c : Nat} (hf : Frm (· = c) w w') (hc : w0.heap.size ≤ c) (hn : b ≠ c) : OwW w0 w' b B W t F :=
  ⟨h.win.frm hf hn, h.low.trans (hf.below h.low.size (fun j hj e => by omega)), h.new⟩
theorem OwW.below (h : OwW w0 w b B W t F) (hb : Below w.heap.size w w') : OwW w0 w' b B W t F :=
  ⟨h.win.below hb, h.low.trans (hb.mono h.low.size), h.new⟩
theorem OwW.ali (h : OwW w0 w b B W t F) (ha : Ali w w') : OwW w0 w' b B W t F := h.below (ali_below ha)
end
theorem OwW.nonneg {w0 w : World} {b B W t : Nat} {F : Cnt} (h : OwW w0 w b B W t F) (q j : Nat) : 0 ≤ F q j := by
  obtain ⟨Z, _, hl⟩ := h.win.blk
  exact (hl.bd q j).1
theorem ow_new (w0 w : World) (B W : Nat) (h1 : 1 ≤ B) (h8 : B ≤ 8) (hW : 1 ≤ W) (hW' : W ≤ 1099511627776) (hl : Below w0.heap.size w0 w) :
    Calls Try.prog 9 #[.int .i64 B, .int .u64 W] w fun r w' => r = .returned (.pointer (some ⟨w.heap.size, 0, none⟩)) ∧ OwW w0 w' w.heap.size B W 0 (fun _ _ => 0) ∧ Below w.heap.size w w' :=
  (new_win B W w h1 h8 hW hW').mono fun r w' ⟨hr, hw, hb⟩ => ⟨hr, ⟨hw, hl.trans (hb.mono hl.size), hl.size⟩, hb⟩

theorem later_any (a b : Int) (w : World) (ha : 0 ≤ a) (hb : 0 ≤ b) (ha' : a ≤ 18446744073709551615) (hb' : b ≤ 18446744073709551615) :
    Calls Try.prog 12 #[.int .u64 a, .int .u64 b] w fun r w' => r = .returned (.int .u64 (addS a b)) ∧ w = w' := by
  go_enter Try.func12, Try.ntmps12
  go_wp2_with (go_at_call 13; refine (radd_any _ _ _ ha hb ha' hb').mono ?_; rintro e w' ⟨rfl, rfl⟩)
  go_ret
  exact ⟨rfl, rfl⟩

/-- Add, with what it leaves under names. -/
theorem ow_add (w0 : World) (b B W t now k : Nat) (n : Int) (F : Cnt) (w : World) (t' : Nat) (F' : Cnt) (h : OwW w0 w b B W t F) (hn : now ≤ 18446744073709551615) (hk : k < 5) (h0 : 0 ≤ n) (h1 : n ≤ 18446744073709551615)
    (ht : max (now / W) t = t') (hF : upd F t' k (addS (F t' k) n) = F') :
    Calls Try.prog 10 #[.pointer (some ⟨b, 0, none⟩), .int .u64 now, .int .i64 k, .int .u64 n] w fun r w' => r = .returned (.bool true) ∧ Frm (· = b) w w' ∧ OwW w0 w' b B W t' F' := by
  subst hF ht
  exact (add_win b B W t now k n F w h.win hn hk h0 h1).mono fun r w' ⟨hr, hf, hw⟩ => ⟨hr, hf, h.after hf hw⟩
theorem ow_counts (w0 : World) (b B W t now : Nat) (F : Cnt) (w : World) (t' : Nat) (c0 c1 c2 c3 c4 : Int) (h : OwW w0 w b B W t F) (hn : now ≤ 18446744073709551615)
    (ht : max (now / W) t = t') (h0 : satS (tot F t' 0 B) = c0) (h1 : satS (tot F t' 1 B) = c1) (h2 : satS (tot F t' 2 B) = c2) (h3 : satS (tot F t' 3 B) = c3) (h4 : satS (tot F t' 4 B) = c4) :
    Calls Try.prog 11 #[.pointer (some ⟨b, 0, none⟩), .int .u64 now] w fun r w' => r = .returned (.agg #[.int .u64 c0, .int .u64 c1, .int .u64 c2, .int .u64 c3, .int .u64 c4]) ∧ Frm (· = b) w w' ∧ OwW w0 w' b B W t' F := by
  subst h0 h1 h2 h3 h4 ht
  exact (counts_win b B W t now F w h.win hn).mono fun r w' ⟨hr, hf, hw⟩ => ⟨hr, hf, h.after hf hw⟩

/-- Counts, as a function of the kinds. -/
theorem ow_countf (w0 : World) (b B W t now : Nat) (F : Cnt) (w : World) (t' : Nat) (c : Nat → Int) (h : OwW w0 w b B W t F) (hn : now ≤ 18446744073709551615) (ht : max (now / W) t = t') (hc : ∀ i, i < 5 → satS (tot F t' i B) = c i) :
    Calls Try.prog 11 #[.pointer (some ⟨b, 0, none⟩), .int .u64 now] w fun r w' => r = .returned (.agg #[.int .u64 (c 0), .int .u64 (c 1), .int .u64 (c 2), .int .u64 (c 3), .int .u64 (c 4)]) ∧ Frm (· = b) w w' ∧ OwW w0 w' b B W t' F :=
  ow_counts w0 b B W t now F w t' _ _ _ _ _ h hn ht (hc 0 (by omega)) (hc 1 (by omega)) (hc 2 (by omega)) (hc 3 (by omega)) (hc 4 (by omega))
/-- A kind's count. -/
theorem index5 (c : Nat → Int) (k : Nat) (hk : k < 5) (x : Int) (hx : c k = x) (w : World) :
    (Instr.index 30 (.agg #[.int .u64 (c 0), .int .u64 (c 1), .int .u64 (c 2), .int .u64 (c 3), .int .u64 (c 4)]) (.int .i64 k)).run Try.prog w = .ok (.int .u64 x) w := by
  refine run_index_one w 30 26 5 _ .i64 k _ (by kernel_rfl) (by kernel_rfl) (by kernel_rfl) (by omega) (by omega) ?_
  subst hx
  rw [Int.toNat_natCast]
  rcases (show k = 0 ∨ k = 1 ∨ k = 2 ∨ k = 3 ∨ k = 4 by omega) with rfl | rfl | rfl | rfl | rfl <;> rfl
/-- Add, whatever the kind. -/
theorem ow_addany (w0 : World) (b B W t now : Nat) (k n : Int) (F : Cnt) (w : World) (h : OwW w0 w b B W t F) (hn : now ≤ 18446744073709551615) (h0 : 0 ≤ n) (h1 : n ≤ 18446744073709551615) :
    Calls Try.prog 10 #[.pointer (some ⟨b, 0, none⟩), .int .u64 now, .int .i64 k, .int .u64 n] w fun r w' => ∃ ok, r = .returned (.bool ok) ∧ Frm (· = b) w w' ∧ ∃ t' F', OwW w0 w' b B W t' F' := by
  by_cases hk : 0 ≤ k ∧ k < 5
  · obtain ⟨i, rfl⟩ : ∃ i : Nat, k = i := ⟨k.toNat, by omega⟩
    exact (ow_add w0 b B W t now i n F w _ _ h hn (by omega) h0 h1 rfl rfl).mono fun r w' ⟨hr, hf, ho⟩ => ⟨_, hr, hf, _, _, ho⟩
  · exact (add_bad b now k n w (by omega)).mono fun r w' ⟨hr, hw⟩ => by subst hw; exact ⟨_, hr, Frm.refl _ _, _, _, h⟩
/-- A deed's cells. -/
theorem deed_at {w : World} {a : Option Addr} {len cap : Nat} {D : List (List Value)} (h : SliceIn w [.int .i64, .int .i64, .int .u64, .int .u64] 32 a len cap D) {i : Nat} (hi : i < len) :
    ∃ blk off k x n, a = some ⟨blk, off, none⟩ ∧ w.cell? ⟨blk, off + i * 4 + 1, none⟩ = some (.int .i64 k) ∧ w.cell? ⟨blk, off + i * 4 + 2, none⟩ = some (.int .u64 x) ∧ w.cell? ⟨blk, off + i * 4 + 3, none⟩ = some (.int .u64 n) ∧ (0 ≤ x ∧ x ≤ 18446744073709551615) ∧ (0 ≤ n ∧ n ≤ 18446744073709551615) := by
  obtain ⟨h1, h2, _, _, _, h6⟩ := h
  rcases h6 with h6 | ⟨blk, off, ha, _, hc⟩
  · omega
  · have hr : D[i]? = some (D[i]'(by omega)) := List.getElem?_eq_getElem (by omega)
    have hf := h2 _ (List.getElem_mem (by omega) : D[i]'(by omega) ∈ D)
    generalize D[i]'(by omega) = row at hr hf
    cases row with
    | nil => exact hf.elim
    | cons c0 row =>
      cases row with
      | nil => exact hf.2.elim
      | cons c1 row =>
        cases row with
        | nil => exact hf.2.2.elim
        | cons c2 row =>
          cases row with
          | nil => exact hf.2.2.2.elim
          | cons c3 row =>
            obtain ⟨_, ⟨k, rfl, _⟩, ⟨x, rfl, hx⟩, ⟨n, rfl, hn⟩, _⟩ := hf
            refine ⟨blk, off, k, x, n, ha, ?_, ?_, ?_, wf_u64 hx, wf_u64 hn⟩
            · simpa [Nat.add_assoc] using hc i 1 _ _ hr rfl
            · simpa [Nat.add_assoc] using hc i 2 _ _ hr rfl
            · simpa [Nat.add_assoc] using hc i 3 _ _ hr rfl
theorem flat5 {a b c d e : Int} (ha : 0 ≤ a ∧ a ≤ 18446744073709551615) (hb : 0 ≤ b ∧ b ≤ 18446744073709551615) (hc : 0 ≤ c ∧ c ≤ 18446744073709551615) (hd : 0 ≤ d ∧ d ≤ 18446744073709551615) (he : 0 ≤ e ∧ e ≤ 18446744073709551615) :
    Flat [.int .u64, .int .u64, .int .u64, .int .u64, .int .u64] (arr5 a b c d e).toList :=
  ⟨⟨a, rfl, WalkArith.wf_u64 ⟨ha.1, by omega⟩⟩, ⟨b, rfl, WalkArith.wf_u64 ⟨hb.1, by omega⟩⟩, ⟨c, rfl, WalkArith.wf_u64 ⟨hc.1, by omega⟩⟩, ⟨d, rfl, WalkArith.wf_u64 ⟨hd.1, by omega⟩⟩, ⟨e, rfl, WalkArith.wf_u64 ⟨he.1, by omega⟩⟩, trivial⟩
theorem same5 {a b c d e : Int} (ha : 0 ≤ a ∧ a ≤ 18446744073709551615) (hb : 0 ≤ b ∧ b ≤ 18446744073709551615) (hc : 0 ≤ c ∧ c ≤ 18446744073709551615) (hd : 0 ≤ d ∧ d ≤ 18446744073709551615) (he : 0 ≤ e ∧ e ≤ 18446744073709551615) (w : World) :
    (Op.equalIn 10000 30 (.agg #[.int .u64 a, .int .u64 b, .int .u64 c, .int .u64 d, .int .u64 e]) (.agg #[.int .u64 a, .int .u64 b, .int .u64 c, .int .u64 d, .int .u64 e])).run Try.prog w = .ok true w :=
  same_yes (P := Try.prog) (t := 30) 8 (by decide) (by kernel_rfl) (by kernel_rfl) (by kernel_rfl) (by kernel_rfl) (flat5 ha hb hc hd he) w

set_option maxHeartbeats 1000000 in
theorem awake_any (w : World) : Calls Try.prog 8 #[] w fun r w' => r = .returned (.bool true) ∧ Below w.heap.size w w' := by
  go_enter Try.func8, Try.ntmps8
  go_wp2_with fail
  refine (ow_new w w 2 10 (by omega) (by omega) (by omega) (by omega) (Below.refl _ _)).mono ?_
  rintro r w1 ⟨rfl, h1, _⟩
  have H1 := Lib.hid h1
  clear h1
  generalize w.heap.size = b at *
  go_wp2_with fail
  refine (ow_add w b 2 10 0 5 0 3 _ w1 0 (upd (fun _ _ => 0) 0 0 3) H1.out (by omega) (by omega) (by omega) (by omega) rfl rfl).mono ?_
  rintro r w2 ⟨rfl, _, hw⟩
  have H2 := Lib.hid hw
  clear hw
  go_wp2_with fail
  refine (ow_add w b 2 10 0 12 2 1 _ w2 1 (upd (upd (fun _ _ => 0) 0 0 3) 1 2 1) H2.out (by omega) (by omega) (by omega) (by omega) rfl rfl).mono ?_
  rintro r w3 ⟨rfl, _, hw⟩
  have H3 := Lib.hid hw
  clear hw
  go_wp2_with fail
  refine (ow_counts w b 2 10 1 19 _ w3 1 3 0 1 0 0 H3.out (by omega) rfl (by decide) (by decide) (by decide) (by decide) (by decide)).mono ?_
  rintro r w4 ⟨rfl, _, hw⟩
  have H4 := Lib.hid hw
  clear hw
  go_wp2_with fail
  have hba := below_alloc w4 (tobj [3, 0, 1, 0, 0])
  have k4 := heap_alloc_at w4 (tobj [3, 0, 1, 0, 0])
  have H5 := Lib.hid (H4.out.below hba)
  have K5 := Lib.hid k4
  generalize hw5 : w4.alloc (tobj [3, 0, 1, 0, 0]) = w5 at *
  generalize w4.heap.size = c at *
  have hw5' := hw5
  simp only [tobj, List.map_cons, List.map_nil] at hw5'
  rw [hw5']
  clear hba k4 hw5 hw5'
  refine (ow_counts w b 2 10 1 20 _ w5 2 0 0 1 0 0 H5.out (by omega) rfl (by decide) (by decide) (by decide) (by decide) (by decide)).mono ?_
  rintro r w6 ⟨rfl, hf, hw⟩
  have k6 := H5.out.win.kept hf K5.out (by decide)
  have H6 := Lib.hid hw
  have q0 := tobj_cell k6 (j := 0) rfl
  have q1 := tobj_cell k6 (j := 1) rfl
  have q2 := tobj_cell k6 (j := 2) rfl
  have q3 := tobj_cell k6 (j := 3) rfl
  have q4 := tobj_cell k6 (j := 4) rfl
  have hcl := heap_lt k6
  have s1 := same5 (a := 3) (b := 0) (c := 1) (d := 0) (e := 0) (by omega) (by omega) (by omega) (by omega) (by omega)
  have s2 := same5 (a := 0) (b := 0) (c := 1) (d := 0) (e := 0) (by omega) (by omega) (by omega) (by omega) (by omega)
  clear hf hw k6
  go_wp2_with (go_at_call 10; refine (add_bad b 20 5 1 _ (.inr (by omega))).mono ?_; rintro r w7 ⟨rfl, rfl⟩)
  go_ret
  exact ⟨rfl, (H6.out.below (below_alloc _ _)).low⟩
end Go.Proofs.Ytmnfncgalnhplaa
