/- Contracts of package breaker: Ask, Trip, Done, Back. -/
import Derived.Test.YtnggcegoomhneaaBrk
namespace Go.Proofs.Ytnggcegoomhneaa
set_option linter.unusedVariables false
open Go.ChangeShapes Go.WideShapes Go.ChangeAt Go.RowKit

theorem trip_brk (b : Nat) (now : Int) (x : BK) (w : World) (h : Brk w b x) :
    Calls Try.prog 18 #[.pointer (some ⟨b, 0, none⟩), .int .u64 now] w fun r w' => r = .returned (.bool x.trips) ∧ Brk w' b (x.trip now) ∧ Frm (· = b) w w' := by
  obtain ⟨c0, c1, c2, c3⟩ := h.cells
  have HB := Lib.hid h
  have HO := Lib.hid (open_brk b now x w h)
  clear h
  by_cases hf : x.force = 0
  · have hf' : (x.force != 0) = false := by simp [hf]
    by_cases hs : x.state = 1
    · have hs' : (x.state != 1) = false := by simp [hs]
      have e1 : x.trips = true := by simp [BK.trips, hf, hs]
      have e2 : x.trip now = { x with state := 2, since := now } := by simp [BK.trip, hf, hs]
      rw [e1, e2]
      clear hf hs e1 e2
      go_enter Try.func18, Try.ntmps18
      go_wp2_with (go_at_call 26; refine HO.out.mono ?_; rintro r w1 ⟨rfl, hb, hfr⟩)
      go_ret
      exact ⟨rfl, hb, hfr⟩
    · have hs' : (x.state != 1) = true := by simp [hs]
      have e1 : x.trips = false := by simp [BK.trips, hs]
      have e2 : x.trip now = x := by simp [BK.trip, hs]
      rw [e1, e2]
      clear hf hs e1 e2
      go_enter Try.func18, Try.ntmps18
      go_wp2
      go_ret
      exact ⟨rfl, HB.out, Frm.refl _ _⟩
  · have hf' : (x.force != 0) = true := by simp [hf]
    have e1 : x.trips = false := by simp [BK.trips, hf]
    have e2 : x.trip now = x := by simp [BK.trip, hf]
    rw [e1, e2]
    clear hf e1 e2
    go_enter Try.func18, Try.ntmps18
    go_wp2
    go_ret
    exact ⟨rfl, HB.out, Frm.refl _ _⟩

theorem done_brk (b : Nat) (now : Int) (ok : Bool) (x : BK) (w : World) (h : Brk w b x) :
    Calls Try.prog 20 #[.pointer (some ⟨b, 0, none⟩), .int .u64 now, .bool ok] w fun r w' => r = .returned (.bool x.half) ∧ Brk w' b (x.done now ok) ∧ Frm (· = b) w w' := by
  obtain ⟨c0, c1, c2, c3⟩ := h.cells
  have z2 : w.frozen? ⟨b, 2, none⟩ = false := frozen_of h 2
  have HB := Lib.hid h
  have HO := Lib.hid (open_brk b now x w h)
  clear h
  by_cases hs : x.state = 3
  · have hs' : (x.state != 3) = false := by simp [hs]
    have e1 : x.half = true := by simp [BK.half, hs]
    rw [e1]
    cases ok with
    | true =>
      have e2 : x.done now true = { x with state := 1 } := by simp [BK.done, hs]
      rw [e2]
      clear hs e1 e2
      go_enter Try.func20, Try.ntmps20
      go_wp2
      go_ret
      exact ⟨rfl, HB.out.state 1, (Frm.refl _ _).on _ _⟩
    | false =>
      have e2 : x.done now false = { x with state := 2, since := now } := by simp [BK.done, hs]
      rw [e2]
      clear hs e1 e2
      go_enter Try.func20, Try.ntmps20
      go_wp2_with (go_at_call 26; refine HO.out.mono ?_; rintro r w1 ⟨rfl, hb, hfr⟩)
      go_ret
      exact ⟨rfl, hb, hfr⟩
  · have hs' : (x.state != 3) = true := by simp [hs]
    have e1 : x.half = false := by simp [BK.half, hs]
    have e2 : x.done now ok = x := by simp [BK.done, hs]
    rw [e1, e2]
    clear hs e1 e2
    go_enter Try.func20, Try.ntmps20
    go_wp2
    go_ret
    exact ⟨rfl, HB.out, Frm.refl _ _⟩

theorem back_brk (b : Nat) (x : BK) (w : World) (h : Brk w b x) :
    Calls Try.prog 21 #[.pointer (some ⟨b, 0, none⟩)] w fun r w' => r = .returned (.bool x.half) ∧ Brk w' b x.back ∧ Frm (· = b) w w' := by
  obtain ⟨c0, c1, c2, c3⟩ := h.cells
  have z2 : w.frozen? ⟨b, 2, none⟩ = false := frozen_of h 2
  have HB := Lib.hid h
  clear h
  by_cases hs : x.state = 3
  · have hs' : (x.state != 3) = false := by simp [hs]
    have e1 : x.half = true := by simp [BK.half, hs]
    have e2 : x.back = { x with state := 2 } := by simp [BK.back, hs]
    rw [e1, e2]
    clear hs e1 e2
    go_enter Try.func21, Try.ntmps21
    go_wp2
    go_ret
    exact ⟨rfl, HB.out.state 2, (Frm.refl _ _).on _ _⟩
  · have hs' : (x.state != 3) = true := by simp [hs]
    have e1 : x.half = false := by simp [BK.half, hs]
    have e2 : x.back = x := by simp [BK.back, hs]
    rw [e1, e2]
    clear hs e1 e2
    go_enter Try.func21, Try.ntmps21
    go_wp2
    go_ret
    exact ⟨rfl, HB.out, Frm.refl _ _⟩

set_option maxHeartbeats 1000000 in
theorem ask_brk (b : Nat) (now : Int) (x : BK) (w : World) (h : Brk w b x) (hx : x.Fits) (hn : 0 ≤ now ∧ now ≤ 18446744073709551615) :
    Calls Try.prog 19 #[.pointer (some ⟨b, 0, none⟩), .int .u64 now] w fun r w' => r = .returned (.int .i64 (x.asked now)) ∧ Brk w' b (x.ask now) ∧ Frm (· = b) w w' := by
  obtain ⟨c0, c1, c2, c3⟩ := h.cells
  have z2 : w.frozen? ⟨b, 2, none⟩ = false := frozen_of h 2
  have HB := Lib.hid h
  clear h
  by_cases f1 : x.force = 1
  · have f1' : (x.force == 1) = true := by simp [f1]
    have e1 : x.asked now = 3 := by simp [BK.asked, f1]
    have e2 : x.ask now = x := by simp [BK.ask, BK.wakes, f1]
    rw [e1, e2]
    clear f1 e1 e2
    go_enter Try.func19, Try.ntmps19
    go_wp2
    go_ret
    exact ⟨rfl, HB.out, Frm.refl _ _⟩
  · have f1' : (x.force == 1) = false := by simp [f1]
    by_cases f2 : x.force = 2
    · have f2' : (x.force == 2) = true := by simp [f2]
      have e1 : x.asked now = 1 := by simp [BK.asked, f2]
      have e2 : x.ask now = x := by simp [BK.ask, BK.wakes, f2]
      rw [e1, e2]
      clear f1 f2 e1 e2
      go_enter Try.func19, Try.ntmps19
      go_wp2
      go_ret
      exact ⟨rfl, HB.out, Frm.refl _ _⟩
    · have f2' : (x.force == 2) = false := by simp [f2]
      by_cases s1 : x.state = 1
      · have s1' : (x.state == 1) = true := by simp [s1]
        have e1 : x.asked now = 1 := by simp [BK.asked, f1, s1]
        have e2 : x.ask now = x := by simp [BK.ask, BK.wakes, s1]
        rw [e1, e2]
        clear f1 f2 s1 e1 e2
        go_enter Try.func19, Try.ntmps19
        go_wp2
        go_ret
        exact ⟨rfl, HB.out, Frm.refl _ _⟩
      · have s1' : (x.state == 1) = false := by simp [s1]
        by_cases s2 : x.state = 2
        · have s2' : (x.state == 2) = true := by simp [s2]
          have hadd := fun v => add_any x.since x.sleep v hx.since.1 hx.sleep.1 hx.since.2 hx.sleep.2
          by_cases hw : addS x.since x.sleep ≤ now
          · have e1 : x.asked now = 2 := by simp [BK.asked, BK.wakes, f1, f2, s2, hw]
            have e2 : x.ask now = { x with state := 3 } := by simp [BK.ask, BK.wakes, f1, f2, s2, hw]
            rw [e1, e2]
            generalize addS x.since x.sleep = z at *
            have HA := Lib.hid hadd
            clear f1 f2 s1 s2 e1 e2 hadd hx hn
            go_enter Try.func19, Try.ntmps19
            go_wp2
            have p0 : ∀ p : Later w, p.v.cell? ⟨b, 0, none⟩ = some (.int .u64 x.sleep) := fun p => p.cell c0
            have p2 : ∀ p : Later w, p.v.cell? ⟨b, 2, none⟩ = some (.int .i64 x.state) := fun p => p.cell c2
            have p3 : ∀ p : Later w, p.v.cell? ⟨b, 3, none⟩ = some (.int .u64 x.since) := fun p => p.cell c3
            refine wp_region_later (by kernel_rfl) (by kernel_rfl) ?_
            repeat (go_big_quiet_step (first | (go_at_call 27; with_reducible exact Calls.later_is (HA.out _))))
            refine wpQuiet_nil ?_
            rintro w10 ⟨p10, h10⟩
            have b10 : Below w.heap.size w w10 := h10 ▸ p10.low
            clear h10 p10
            have hb10 := HB.out.below b10
            obtain ⟨d0, d1, d2, d3⟩ := hb10.cells
            have y2 : w10.frozen? ⟨b, 2, none⟩ = false := frozen_of hb10 2
            have HB10 := Lib.hid hb10
            clear hb10 p0 p2 p3
            go_wp2
            go_ret
            exact ⟨rfl, HB10.out.state 3, (Frm.of_below b10).on _ _⟩
          · have e1 : x.asked now = 3 := by simp [BK.asked, BK.wakes, f1, f2, s2, hw]
            have e2 : x.ask now = x := by simp [BK.ask, BK.wakes, f1, f2, s2, hw]
            rw [e1, e2]
            generalize addS x.since x.sleep = z at *
            have HA := Lib.hid hadd
            clear f1 f2 s1 s2 e1 e2 hadd hx hn
            go_enter Try.func19, Try.ntmps19
            go_wp2
            have p0 : ∀ p : Later w, p.v.cell? ⟨b, 0, none⟩ = some (.int .u64 x.sleep) := fun p => p.cell c0
            have p2 : ∀ p : Later w, p.v.cell? ⟨b, 2, none⟩ = some (.int .i64 x.state) := fun p => p.cell c2
            have p3 : ∀ p : Later w, p.v.cell? ⟨b, 3, none⟩ = some (.int .u64 x.since) := fun p => p.cell c3
            refine wp_region_later (by kernel_rfl) (by kernel_rfl) ?_
            repeat (go_big_quiet_step (first | (go_at_call 27; with_reducible exact Calls.later_is (HA.out _))))
            refine wpQuiet_nil ?_
            rintro _ ⟨⟨w10, b10⟩, rfl⟩
            clear p0 p2 p3
            go_wp2
            go_ret
            exact ⟨rfl, HB.out.below b10, Frm.of_below b10⟩
        · have s2' : (x.state == 2) = false := by simp [s2]
          have e1 : x.asked now = 3 := by simp [BK.asked, BK.wakes, f1, f2, s1, s2]
          have e2 : x.ask now = x := by simp [BK.ask, BK.wakes, s2]
          rw [e1, e2]
          clear f1 f2 s1 s2 e1 e2 hx hn
          go_enter Try.func19, Try.ntmps19
          go_wp2
          have p2 : ∀ p : Later w, p.v.cell? ⟨b, 2, none⟩ = some (.int .i64 x.state) := fun p => p.cell c2
          refine wp_region_later (by kernel_rfl) (by kernel_rfl) ?_
          repeat (go_big_quiet_step (fail))
          refine wpQuiet_nil ?_
          rintro _ ⟨⟨w10, b10⟩, rfl⟩
          clear p2
          go_wp2
          go_ret
          exact ⟨rfl, HB.out.below b10, Frm.of_below b10⟩
end Go.Proofs.Ytnggcegoomhneaa
