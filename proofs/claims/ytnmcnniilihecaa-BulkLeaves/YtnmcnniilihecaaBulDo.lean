/- Contracts of package bulk: Drop, Free, Pick. -/
import Derived.Test.YtnmcnniilihecaaBul
import Derived.Deep.RegionHeld3
namespace Go.Proofs.Ytnmcnniilihecaa
set_option linter.unusedVariables false
open Go.ChangeShapes Go.WideShapes Go.ChangeAt Go.RowKit

theorem drop_bul (b : Nat) (f : Fb) (S : BU) (x : Int) (w : World) (h : Bul w b f S) : Calls Try.prog 23 #[.pointer (some ⟨b, 0, none⟩), .int .i64 x] w fun r w' => r = .returned (.bool (decide (x ∈ S.wait))) ∧ Bul w' b f (S.drop x) ∧ Frm f.F w w' := by
  obtain ⟨c0, c1⟩ := h.cells
  have HR := Lib.hid (remove_ring f.rb S.que x S.wait w h.rng)
  have H := Lib.hid h
  clear h
  generalize decide (x ∈ S.wait) = t at *
  go_enter Try.func23, Try.ntmps23
  go_wp2_with fail
  refine HR.out.mono ?_
  rintro r w1 ⟨rfl, hf, hr⟩
  have H1 : Hid (Bul w1 b f (S.drop x)) := Lib.hid (H.out.afterR hf hr (H.out.ok.drop x))
  have HF := Lib.hid (Fb.ofR hf)
  clear hf hr HR c0 c1
  go_wp2
  go_ret
  exact ⟨rfl, H1.out, HF.out⟩
theorem drop_none (x : Int) (w : World) : Calls Try.prog 23 #[.pointer none, .int .i64 x] w fun r w' => r = .returned (.bool false) ∧ w = w' := by
  go_enter Try.func23, Try.ntmps23
  go_wp2
  go_ret
  exact ⟨rfl, rfl⟩

set_option maxHeartbeats 1000000 in
theorem free_not (b : Nat) (f : Fb) (S : BU) (x : Int) (w : World) (h : Bul w b f S) (hx : wf64 x) (hn : x ∉ S.run) : Calls Try.prog 22 #[.pointer (some ⟨b, 0, none⟩), .int .i64 x] w fun r w' => r = .returned (.bool false) ∧ Below w.heap.size w w' := by
  have c0 : ∀ p : Later w, p.v.cell? ⟨b, 0, none⟩ = some (.pointer (some ⟨f.pb, 0, none⟩)) := fun p => p.cell h.cells.1
  have PH : Hid (∀ p : Later w, Calls Try.prog 40 #[.pointer (some ⟨f.pb, 0, none⟩), .agg #[.int .i64 x, .int .i64 0]] p.v fun r w' => r = .returned (.bool false) ∧ Below p.v.heap.size p.v w') :=
    Lib.hid (fun p => free_no f.pb f.m S.most (hol S.run) x 0 p.v (h.below p.low).prm (wf_h hx) (by rw [mem_hol0]; exact hn))
  clear h hx hn
  go_enter Try.func22, Try.ntmps22
  go_wp2
  refine wp_region_later (by kernel_rfl) (by kernel_rfl) ?_
  repeat (go_big_quiet_step (first | (go_at_call 32; with_reducible exact Calls.later_of (holder_any x _)) | (go_at_call 40; with_reducible exact Calls.later_of (PH.out _))))
  refine wpQuiet_nil ?_
  rintro _ ⟨⟨w10, b10⟩, rfl⟩
  go_wp2
  go_ret
  exact ⟨rfl, b10⟩
set_option maxHeartbeats 1000000 in
theorem free_one (b : Nat) (f : Fb) (S : BU) (x : Int) (w : World) (h : Bul w b f S) (hx : wf64 x) (hn : x ∈ S.run) : Calls Try.prog 22 #[.pointer (some ⟨b, 0, none⟩), .int .i64 x] w fun r w' => r = .returned (.bool true) ∧ Bul w' b f (S.free x) ∧ Frm f.F w w' := by
  have H0 := Lib.hid (h.ali (drew_ali _))
  have HX := Lib.hid hx
  have HN := Lib.hid hn
  clear hx hn h
  go_enter Try.func22, Try.ntmps22
  go_wp2
  go_region_held3 (fun v => v.cell? ⟨b, 0, none⟩ = some (.pointer (some ⟨f.pb, 0, none⟩)))
    (first
      | with_reducible exact h1.cells.1
      | with_reducible exact h2.cells.1
      | with_reducible exact H0.out.cells.1)
    (first
      | (go_at_call 32; refine (holder_any x _).mono ?_; rintro r w1 ⟨rfl, b1⟩; have h1 := H0.out.below b1)
      | (go_at_call 40; refine (free_yes f.pb f.m S.most (hol S.run) x 0 _ h1.prm (wf_h HX.out) (by rw [mem_hol0]; exact HN.out)).mono ?_; rintro r w2 ⟨rfl, f2, p2⟩; rw [hol_erase h1.ok.nr] at p2; have h2 : Bul w2 b f (S.free x) := h1.afterM f2 p2 (h1.ok.free x)))
  go_wp2
  go_ret
  exact ⟨rfl, h2, (Frm.of_below (F := f.F) ((ali_below (drew_ali w)).trans b1)).trans (Fb.ofM f2) (fun _ _ h => h)⟩
/-- Free, whether it runs or not. -/
theorem free_bul (b : Nat) (f : Fb) (S : BU) (x : Int) (w : World) (h : Bul w b f S) (hx : wf64 x) : Calls Try.prog 22 #[.pointer (some ⟨b, 0, none⟩), .int .i64 x] w fun r w' => r = .returned (.bool (decide (x ∈ S.run))) ∧ Bul w' b f (S.free x) ∧ Frm f.F w w' := by
  by_cases hn : x ∈ S.run
  · rw [decide_eq_true hn]
    exact free_one b f S x w h hx hn
  · rw [decide_eq_false hn]
    refine (free_not b f S x w h hx hn).mono ?_
    rintro r w' ⟨rfl, hb⟩
    have e : S.free x = S := by unfold BU.free; rw [List.erase_of_not_mem hn]
    rw [e]
    exact ⟨rfl, h.below hb, Frm.of_below hb⟩
theorem free_nil (x : Int) (w : World) : Calls Try.prog 22 #[.pointer none, .int .i64 x] w fun r w' => r = .returned (.bool false) ∧ Below w.heap.size w w' := by
  go_enter Try.func22, Try.ntmps22
  go_wp2
  refine wp_region_later (by kernel_rfl) (by kernel_rfl) ?_
  repeat (go_big_quiet_step (fail))
  refine wpQuiet_nil ?_
  rintro _ ⟨⟨w10, b10⟩, rfl⟩
  go_wp2
  go_ret
  exact ⟨rfl, b10⟩

theorem pick_nil (w : World) : Calls Try.prog 21 #[.pointer none] w fun r w' => r = .returned (.tuple #[.int .i64 0, .bool false]) ∧ w = w' := by
  go_enter Try.func21, Try.ntmps21
  go_wp2
  go_ret2
  exact ⟨rfl, rfl⟩
theorem pick_full (b : Nat) (f : Fb) (S : BU) (w : World) (h : Bul w b f S) (hr : ¬ S.run.length < S.most) : Calls Try.prog 21 #[.pointer (some ⟨b, 0, none⟩)] w fun r w' => r = .returned (.tuple #[.int .i64 0, .bool false]) ∧ Below w.heap.size w w' := by
  obtain ⟨c0, c1⟩ := h.cells
  have hm := room_prm f.pb f.m S.most (hol S.run) w h.prm
  rw [length_hol, decide_eq_false hr] at hm
  have HM := Lib.hid hm
  clear h hr hm
  go_enter Try.func21, Try.ntmps21
  go_wp2_with fail
  refine HM.out.mono ?_
  rintro r w1 ⟨rfl, ha⟩
  have HA := Lib.hid ha
  clear ha
  go_wp2
  go_ret2
  exact ⟨rfl, ali_below HA.out⟩
theorem pick_idle (b : Nat) (f : Fb) (S : BU) (w : World) (h : Bul w b f S) (hr : S.run.length < S.most) (hw : S.wait = []) : Calls Try.prog 21 #[.pointer (some ⟨b, 0, none⟩)] w fun r w' => r = .returned (.tuple #[.int .i64 0, .bool false]) ∧ Below w.heap.size w w' := by
  obtain ⟨c0, c1⟩ := h.cells
  have hm := room_prm f.pb f.m S.most (hol S.run) w h.prm
  rw [length_hol, decide_eq_true hr] at hm
  have HM := Lib.hid hm
  have H := Lib.hid h
  have HW := Lib.hid hw
  clear h hr hm hw
  go_enter Try.func21, Try.ntmps21
  go_wp2_with fail
  refine HM.out.mono ?_
  rintro r w1 ⟨rfl, ha⟩
  clear c0 c1
  obtain ⟨c0, c1⟩ := (H.out.ali ha).cells
  have hr := (H.out.ali ha).rng
  rw [HW.out] at hr
  have HP := Lib.hid (pop_none f.rb S.que w1 hr)
  have HA := Lib.hid ha
  clear ha hr
  go_wp2_with fail
  refine HP.out.mono ?_
  rintro r w2 ⟨rfl, rfl⟩
  go_wp2
  go_ret2
  exact ⟨rfl, ali_below HA.out⟩
set_option maxHeartbeats 1000000 in
theorem pick_one (b : Nat) (f : Fb) (S : BU) (y : Int) (l : List Int) (w : World) (h : Bul w b f S) (hr : S.run.length < S.most) (hw : S.wait = y :: l) : Calls Try.prog 21 #[.pointer (some ⟨b, 0, none⟩)] w fun r w' => r = .returned (.tuple #[.int .i64 y, .bool true]) ∧ Bul w' b f (S.turn y l) ∧ Frm f.F w w' := by
  obtain ⟨c0, c1⟩ := h.cells
  have hm := room_prm f.pb f.m S.most (hol S.run) w h.prm
  rw [length_hol, decide_eq_true hr] at hm
  have HM := Lib.hid hm
  have H := Lib.hid h
  have HW := Lib.hid hw
  have HR := Lib.hid hr
  clear h hr hm hw
  go_enter Try.func21, Try.ntmps21
  go_wp2_with fail
  refine HM.out.mono ?_
  rintro r w1 ⟨rfl, ha⟩
  clear c0 c1
  have h1 := H.out.ali ha
  obtain ⟨c0, c1⟩ := h1.cells
  have hr := h1.rng
  rw [HW.out] at hr
  have HP := Lib.hid (pop_some f.rb S.que y l w1 hr)
  have HA := Lib.hid ha
  have H1 := Lib.hid h1
  clear ha hr h1
  go_wp2_with fail
  refine HP.out.mono ?_
  rintro r w2 ⟨rfl, f2, r2⟩
  clear c0 c1
  have ok2 : BU.Ok ⟨S.most, S.que, S.run, l⟩ := by
    have hk := H.out.ok.drop y
    have e : S.drop y = ⟨S.most, S.que, S.run, l⟩ := by unfold BU.drop; rw [HW.out, List.erase_cons_head]
    rwa [e] at hk
  have h2 := H1.out.afterR f2 r2 ok2
  have H2 := Lib.hid (h2.ali (drew_ali _))
  have F2 : Hid (Frm f.F w w2) := Lib.hid ((Frm.of_ali HA.out).trans (Fb.ofR f2) (fun _ _ h => h))
  have hwy : wf64 y := H.out.ok.ww y (by rw [HW.out]; simp)
  have HWY := Lib.hid hwy
  have hny : y ∉ S.run := H.out.ok.apart y (by rw [HW.out]; simp)
  have HNY := Lib.hid hny
  clear f2 r2 ok2 h2 HP H1 HM hwy hny
  go_wp2
  go_region_held3 (fun v => v.cell? ⟨b, 0, none⟩ = some (.pointer (some ⟨f.pb, 0, none⟩)))
    (first
      | with_reducible exact h3.cells.1
      | with_reducible exact h4.cells.1
      | with_reducible exact H2.out.cells.1)
    (first
      | (go_at_call 32; refine (holder_any y _).mono ?_; rintro r w3 ⟨rfl, b3⟩; have h3 := H2.out.below b3)
      | (go_at_call 36; refine (take_yes f.pb f.m S.most (hol S.run) y 0 _ h3.prm (wf_h HWY.out) (by rw [length_hol]; exact HR.out) (by rw [mem_hol0]; exact HNY.out)).mono ?_; rintro r w4 ⟨rfl, f4, p4⟩; rw [hol_snoc H.out.ok.nr HNY.out] at p4; have h4 : Bul w4 b f (S.turn y l) := h3.afterM f4 p4 (H.out.ok.turn HW.out HR.out)))
  go_wp2
  go_ret2
  exact ⟨rfl, h4, ((F2.out.ali (drew_ali _)).then_below b3).trans (Fb.ofM f4) (fun _ _ h => h)⟩
/-- Pick, as it comes. -/
theorem pick_bul (b : Nat) (f : Fb) (S : BU) (w : World) (h : Bul w b f S) : Calls Try.prog 21 #[.pointer (some ⟨b, 0, none⟩)] w fun r w' => r = .returned (.tuple #[.int .i64 S.first, .bool S.picked]) ∧ Bul w' b f S.pick ∧ Frm f.F w w' := by
  by_cases hr : S.run.length < S.most
  · cases hw : S.wait with
    | nil =>
      refine (pick_idle b f S w h hr hw).mono ?_
      rintro r w' ⟨rfl, hb⟩
      rw [show S.first = 0 by simp [BU.first, hw], show S.picked = false by simp [BU.picked, hw], show S.pick = S by simp [BU.pick, hw]]
      exact ⟨rfl, h.below hb, Frm.of_below hb⟩
    | cons y l =>
      rw [show S.first = y by simp [BU.first, hw, hr], show S.picked = true by simp [BU.picked, hw, hr], show S.pick = S.turn y l by simp [BU.pick, hw, hr]]
      exact pick_one b f S y l w h hr hw
  · refine (pick_full b f S w h hr).mono ?_
    rintro r w' ⟨rfl, hb⟩
    rw [show S.first = 0 by unfold BU.first; split <;> simp [hr], show S.picked = false by unfold BU.picked; split <;> simp [hr], show S.pick = S by unfold BU.pick; split <;> simp [hr]]
    exact ⟨rfl, h.below hb, Frm.of_below hb⟩
end Go.Proofs.Ytnmcnniilihecaa
