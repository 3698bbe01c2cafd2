/- Contracts of package latch: Since, All, Emit. -/
import Derived.Test.YtgbhkfefdeahdaaLat
import Derived.Test.YtgbhkfefdeahdaaSlc
import Derived.Test.YtgbhkfefdeahdaaTail
namespace Go.Proofs.Ytgbhkfefdeahdaa
set_option linter.unusedVariables false
open Go.ChangeShapes Go.WideShapes Go.ChangeAt Go.RowKit

theorem since_nil (z : Int) (w : World) : Calls Try.prog 19 #[.pointer none, .int .i64 z] w fun r w' => r = .returned (.slice none 0 0) ∧ w = w' := by
  go_enter Try.func19, Try.ntmps19
  go_wp2
  go_ret
  exact ⟨rfl, rfl⟩
theorem all_nil (w : World) : Calls Try.prog 18 #[.pointer none] w fun r w' => r = .returned (.slice none 0 0) ∧ w = w' := by
  go_enter Try.func18, Try.ntmps18
  go_wp2_with fail
  refine (since_nil 0 w).mono ?_
  rintro r w' ⟨rfl, rfl⟩
  go_wp2
  go_ret
  exact ⟨rfl, rfl⟩
/-- How many of n are passed over. -/
theorem cut_at (z : Int) (n : Nat) : ∃ k : Nat, k ≤ n ∧ ((z < 0 ∧ k = 0) ∨ (z = k) ∨ ((n : Int) < z ∧ k = n)) ∧ ∀ (L : List Ot), L.length = n → L.drop k = L.drop z.toNat := by
  by_cases h : (z.toNat : Int) ≤ n
  · exact ⟨z.toNat, by omega, by omega, fun _ _ => rfl⟩
  · exact ⟨n, Nat.le_refl _, by omega, fun L hL => by rw [List.drop_of_length_le (by omega), List.drop_of_length_le (by omega)]⟩
theorem sizeOfO (w : World) : (sizeOf 29).run Try.prog w = .ok 5 w := by kernel_rfl
set_option maxRecDepth 100000 in
set_option maxHeartbeats 1000000 in
theorem since_lat (base b m : Nat) (v : Value) (L : List Ot) (z : Int) (w : World) (h : Lat w base b m v L) (hl : L.length ≤ 1000) :
    Calls Try.prog 19 #[.pointer (some ⟨b, 0, none⟩), .int .i64 z] w fun r w' => ∃ v', r = .returned v' ∧ OutR w' w.heap.size v' (L.drop z.toNat) ∧ Below w.heap.size w w' := by
  obtain ⟨A, n, c, hv, hrow, hn, hnc, hcm⟩ := h.row.row'
  subst hv
  obtain ⟨k, hk, hcut, hdrop⟩ := cut_at z n
  obtain ⟨c0, c1⟩ := h.cells
  rw [← hdrop L hn.out]
  obtain ⟨A', hsl, hsrc⟩ := run_slice_drop (kd := .i64) out_slice sizeOfO hrow hnc hk
  obtain ⟨q, hq⟩ : ∃ q, n - k = q := ⟨_, rfl⟩
  obtain ⟨c', hc'⟩ : ∃ c', c - k = c' := ⟨_, rfl⟩
  rw [hq, hc'] at hsl
  rw [hq] at hsrc
  have HO : Hid (OutR w w.heap.size (.slice none 0 0) ([] : List Ot)) := Lib.hid (OwnR.nil _ _ _)
  have SL := Lib.hid hsl
  have SRC := Lib.hid hsrc
  have HN : Hid (q ≤ 1000) := Lib.hid (by have := hn.out; omega)
  clear h hdrop hn hrow hsl hsrc hnc hcm hq hc'
  rcases hcut with ⟨hz, rfl⟩ | rfl | ⟨hz, rfl⟩
  all_goals (
    go_enter Try.func19, Try.ntmps19
    go_wp2_with (first
      | (refine wpList_slice rfl _ _ _ _ rfl _ (SL.out w) ?_)
      | (at_builtin; refine wpList_appO (base := w.heap.size) rfl _ _ rfl rfl rfl HO.out SRC.out (by have := HN.out; simp; omega) (Nat.le_refl _) ?_; intro v' w' own' gr' _; have OWN := Lib.hid own'; have GR := Lib.hid gr'; clear own' gr'))
    go_ret
    exact ⟨_, rfl, OWN.out, grown_low GR.out (Nat.le_refl _) HO.out.low⟩)
theorem all_lat (base b m : Nat) (v : Value) (L : List Ot) (w : World) (h : Lat w base b m v L) (hl : L.length ≤ 1000) :
    Calls Try.prog 18 #[.pointer (some ⟨b, 0, none⟩)] w fun r w' => ∃ v', r = .returned v' ∧ OutR w' w.heap.size v' L ∧ Below w.heap.size w w' := by
  have hs := since_lat base b m v L 0 w h hl
  clear h
  go_enter Try.func18, Try.ntmps18
  go_wp2_with fail
  refine hs.mono ?_
  clear hs
  rintro r w' ⟨v', rfl, ho, hb⟩
  have HO := Lib.hid ho
  have HB := Lib.hid hb
  clear ho hb
  go_wp2
  go_ret
  exact ⟨_, rfl, HO.out, HB.out⟩
end Go.Proofs.Ytgbhkfefdeahdaa
