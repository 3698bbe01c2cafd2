/- Contracts of package bulk: Admit. (Written by wip/tools/gen_bulad.py.) -/
import Derived.Test.YtnmcnniilihecaaBulDo
namespace Go.Proofs.Ytnmcnniilihecaa
set_option linter.unusedVariables false
open Go.ChangeShapes Go.WideShapes Go.ChangeAt Go.RowKit

theorem admit_nil (x : Int) (w : World) : Calls Try.prog 20 #[.pointer none, .int .i64 x] w fun r w' => r = .returned (.tuple #[.int .i64 3, .slice none 0 0]) ∧ w = w' := by
  go_enter Try.func20, Try.ntmps20
  go_wp2
  go_ret2
  exact ⟨rfl, rfl⟩
theorem admit_runs (b : Nat) (f : Fb) (S : BU) (x : Int) (w : World) (h : Bul w b f S) (hx : wf64 x) (hn : x ∈ S.run) :
    Calls Try.prog 20 #[.pointer (some ⟨b, 0, none⟩), .int .i64 x] w fun r w' => r = .returned (.tuple #[.int .i64 3, .slice none 0 0]) ∧ Below w.heap.size w w' := by
  have h1 := runs_bul b f S x w h hx
  rw [decide_eq_true hn] at h1
  have H1 := Lib.hid h1
  clear h h1 hx hn
  go_enter Try.func20, Try.ntmps20
  go_wp2_with fail
  refine H1.out.mono ?_
  rintro r w1 ⟨rfl, hb⟩
  have HB := Lib.hid hb
  clear hb H1
  go_wp2
  go_ret2
  exact ⟨rfl, HB.out⟩
theorem admit_waits (b : Nat) (f : Fb) (S : BU) (x : Int) (w : World) (h : Bul w b f S) (hx : wf64 x) (hn : x ∉ S.run) (hm : x ∈ S.wait) :
    Calls Try.prog 20 #[.pointer (some ⟨b, 0, none⟩), .int .i64 x] w fun r w' => r = .returned (.tuple #[.int .i64 3, .slice none 0 0]) ∧ Below w.heap.size w w' := by
  have h1 := runs_bul b f S x w h hx
  rw [decide_eq_false hn] at h1
  have H := Lib.hid h
  have HX := Lib.hid hx
  have HN := Lib.hid hn
  have R1 := Lib.hid h1
  have HM := Lib.hid hm
  clear hm
  clear h h1 hx hn
  go_enter Try.func20, Try.ntmps20
  go_wp2_with fail
  refine R1.out.mono ?_
  rintro r w1 ⟨rfl, b1⟩
  have h1 := H.out.below b1
  have h2 := waits_bul b f S x w1 h1
  rw [decide_eq_true HM.out] at h2
  have H1 := Lib.hid h1
  have B1 := Lib.hid b1
  have R2 := Lib.hid h2
  clear b1 h1 h2 R1
  go_wp2_with fail
  refine R2.out.mono ?_
  rintro r w2 ⟨rfl, b2⟩
  have H2 := Lib.hid (H1.out.below b2)
  have B2 := Lib.hid (B1.out.trans (b2.mono B1.out.size))
  clear b2 H1 B1 R2
  go_wp2
  go_ret2
  exact ⟨rfl, B2.out⟩
set_option maxHeartbeats 1000000 in
theorem admit_run (b : Nat) (f : Fb) (S : BU) (x : Int) (w : World) (h : Bul w b f S) (hx : wf64 x) (hn : x ∉ S.run) (hm : x ∉ S.wait) (hl : S.run.length < S.most) (he : S.wait = []) :
    Calls Try.prog 20 #[.pointer (some ⟨b, 0, none⟩), .int .i64 x] w fun r w' => r = .returned (.tuple #[.int .i64 1, .slice none 0 0]) ∧ Bul w' b f (S.runs x) ∧ Frm f.F w w' := by
  have h1 := runs_bul b f S x w h hx
  rw [decide_eq_false hn] at h1
  have H := Lib.hid h
  have HX := Lib.hid hx
  have HN := Lib.hid hn
  have R1 := Lib.hid h1
  have HM := Lib.hid hm
  have HL := Lib.hid hl
  have HE := Lib.hid he
  clear hm hl he
  clear h h1 hx hn
  go_enter Try.func20, Try.ntmps20
  go_wp2_with fail
  refine R1.out.mono ?_
  rintro r w1 ⟨rfl, b1⟩
  have h1 := H.out.below b1
  have h2 := waits_bul b f S x w1 h1
  rw [decide_eq_false HM.out] at h2
  have H1 := Lib.hid h1
  have B1 := Lib.hid b1
  have R2 := Lib.hid h2
  clear b1 h1 h2 R1
  go_wp2_with fail
  refine R2.out.mono ?_
  rintro r w2 ⟨rfl, b2⟩
  have H2 := Lib.hid (H1.out.below b2)
  have B2 := Lib.hid (B1.out.trans (b2.mono B1.out.size))
  clear b2 H1 B1 R2
  have hlen : ∀ v, Bul v b f S → Calls Try.prog 35 #[.pointer (some ⟨f.rb, 0, none⟩)] v fun r w' => r = .returned (.int .i64 0) ∧ w' = v := fun v hv => by
    have := len_ring f.rb S.que S.wait v hv.rng
    rwa [HE.out] at this
  have LEN := Lib.hid hlen
  have H0 := Lib.hid (H2.out.ali (drew_ali _))
  clear hlen
  go_wp2
  go_region_held3 (fun v => v.cell? ⟨b, 0, none⟩ = some (.pointer (some ⟨f.pb, 0, none⟩)) ∧ v.cell? ⟨b, 1, none⟩ = some (.pointer (some ⟨f.rb, 0, none⟩)))
    (first
      | with_reducible exact h3.cells
      | with_reducible exact h4.cells
      | with_reducible exact H0.out.cells)
    (first
      | (go_at_call 35; refine (LEN.out _ H0.out).mono ?_; rintro r wq ⟨rfl, rfl⟩)
      | (go_at_call 32; refine (holder_any x _).mono ?_; rintro r w3 ⟨rfl, b3⟩; have h3 := H0.out.below b3)
      | (go_at_call 36; refine (take_yes f.pb f.m S.most (hol S.run) x 0 _ h3.prm (wf_h HX.out) (by rw [length_hol]; exact HL.out) (by rw [mem_hol0]; exact HN.out)).mono ?_; rintro r w4 ⟨rfl, f4, p4⟩; rw [hol_snoc H.out.ok.nr HN.out] at p4; have h4 : Bul w4 b f (S.runs x) := h3.afterM f4 p4 (H.out.ok.runs HX.out HN.out HM.out HL.out)))
  go_wp2
  go_ret2
  exact ⟨rfl, h4, ((Frm.of_below (F := f.F) B2.out).ali (drew_ali _)).then_below b3 |>.trans (Fb.ofM f4) (fun _ _ h => h)⟩
set_option maxHeartbeats 1000000 in
theorem admit_wait0 (b : Nat) (f : Fb) (S : BU) (x : Int) (w : World) (h : Bul w b f S) (hx : wf64 x) (hn : x ∉ S.run) (hm : x ∉ S.wait) (hl : ¬ S.run.length < S.most) (he : S.wait = []) (hq : S.wait.length < S.que) :
    Calls Try.prog 20 #[.pointer (some ⟨b, 0, none⟩), .int .i64 x] w fun r w' => r = .returned (.tuple #[.int .i64 2, .slice none 0 0]) ∧ Bul w' b f (S.waits x) ∧ Frm f.F w w' := by
  have h1 := runs_bul b f S x w h hx
  rw [decide_eq_false hn] at h1
  have H := Lib.hid h
  have HX := Lib.hid hx
  have HN := Lib.hid hn
  have R1 := Lib.hid h1
  have HM := Lib.hid hm
  have HL := Lib.hid hl
  have HE := Lib.hid he
  have HQ := Lib.hid hq
  clear hm hl he hq
  clear h h1 hx hn
  go_enter Try.func20, Try.ntmps20
  go_wp2_with fail
  refine R1.out.mono ?_
  rintro r w1 ⟨rfl, b1⟩
  have h1 := H.out.below b1
  have h2 := waits_bul b f S x w1 h1
  rw [decide_eq_false HM.out] at h2
  have H1 := Lib.hid h1
  have B1 := Lib.hid b1
  have R2 := Lib.hid h2
  clear b1 h1 h2 R1
  go_wp2_with fail
  refine R2.out.mono ?_
  rintro r w2 ⟨rfl, b2⟩
  have H2 := Lib.hid (H1.out.below b2)
  have B2 := Lib.hid (B1.out.trans (b2.mono B1.out.size))
  clear b2 H1 B1 R2
  have c0 : ∀ p : Later w2, p.v.cell? ⟨b, 0, none⟩ = some (.pointer (some ⟨f.pb, 0, none⟩)) := fun p => p.cell H2.out.cells.1
  have c1 : ∀ p : Later w2, p.v.cell? ⟨b, 1, none⟩ = some (.pointer (some ⟨f.rb, 0, none⟩)) := fun p => p.cell H2.out.cells.2
  have LEN : Hid (∀ p : Later w2, Calls Try.prog 35 #[.pointer (some ⟨f.rb, 0, none⟩)] p.v fun r w' => r = .returned (.int .i64 0) ∧ p.v = w') := Lib.hid (fun p => by
    have := len_ring f.rb S.que S.wait p.v (H2.out.below p.low).rng
    rw [HE.out] at this
    exact this.mono (fun _ _ ⟨h, k⟩ => ⟨h, k.symm⟩))
  have TK : Hid (∀ p : Later w2, Calls Try.prog 36 #[.pointer (some ⟨f.pb, 0, none⟩), .agg #[.int .i64 x, .int .i64 0]] p.v fun r w' => r = .returned (.bool false) ∧ Below p.v.heap.size p.v w') :=
    Lib.hid (fun p => take_no f.pb f.m S.most (hol S.run) x 0 p.v (H2.out.below p.low).prm (wf_h HX.out) (.inl (by rw [length_hol]; exact HL.out)))
  go_wp2
  refine wp_region_later (by kernel_rfl) (by kernel_rfl) ?_
  repeat (go_big_quiet_step (first | (go_at_call 35; with_reducible exact Calls.later_is (LEN.out _)) | (go_at_call 32; with_reducible exact Calls.later_of (holder_any x _)) | (go_at_call 36; with_reducible exact Calls.later_of (TK.out _))))
  refine wpQuiet_nil ?_
  rintro w3 ⟨p3, h3⟩
  have b3 : Below w2.heap.size w2 w3 := h3 ▸ p3.low
  have H3 := Lib.hid (H2.out.below b3)
  have B3 : Hid (Below w.heap.size w w3) := Lib.hid (B2.out.trans (b3.mono B2.out.size))
  clear h3 p3 b3 c0 c1 LEN H2 B2
  obtain ⟨c0, c1⟩ := H3.out.cells
  have R3 := Lib.hid (push_some f.rb S.que x S.wait w3 H3.out.rng HQ.out HX.out)
  go_wp2_with fail
  refine R3.out.mono ?_
  rintro r w4 ⟨rfl, f4, r4⟩
  have H4 : Hid (Bul w4 b f (S.waits x)) := Lib.hid (H3.out.afterR f4 r4 (H.out.ok.waits HX.out HN.out HM.out HQ.out))
  have F4 : Hid (Frm f.F w w4) := Lib.hid ((Frm.of_below B3.out).trans (Fb.ofR f4) (fun _ _ h => h))
  clear f4 r4 R3 c0 c1
  go_wp2
  go_ret2
  exact ⟨rfl, H4.out, F4.out⟩
set_option maxHeartbeats 1000000 in
theorem admit_wait1 (b : Nat) (f : Fb) (S : BU) (x : Int) (w : World) (h : Bul w b f S) (hx : wf64 x) (hn : x ∉ S.run) (hm : x ∉ S.wait) (he : S.wait ≠ []) (hq : S.wait.length < S.que) :
    Calls Try.prog 20 #[.pointer (some ⟨b, 0, none⟩), .int .i64 x] w fun r w' => r = .returned (.tuple #[.int .i64 2, .slice none 0 0]) ∧ Bul w' b f (S.waits x) ∧ Frm f.F w w' := by
  have h1 := runs_bul b f S x w h hx
  rw [decide_eq_false hn] at h1
  have H := Lib.hid h
  have HX := Lib.hid hx
  have HN := Lib.hid hn
  have R1 := Lib.hid h1
  have HM := Lib.hid hm
  have HE := Lib.hid he
  have HQ := Lib.hid hq
  clear hm he hq
  clear h h1 hx hn
  go_enter Try.func20, Try.ntmps20
  go_wp2_with fail
  refine R1.out.mono ?_
  rintro r w1 ⟨rfl, b1⟩
  have h1 := H.out.below b1
  have h2 := waits_bul b f S x w1 h1
  rw [decide_eq_false HM.out] at h2
  have H1 := Lib.hid h1
  have B1 := Lib.hid b1
  have R2 := Lib.hid h2
  clear b1 h1 h2 R1
  go_wp2_with fail
  refine R2.out.mono ?_
  rintro r w2 ⟨rfl, b2⟩
  have H2 := Lib.hid (H1.out.below b2)
  have B2 := Lib.hid (B1.out.trans (b2.mono B1.out.size))
  clear b2 H1 B1 R2
  obtain ⟨k, hk⟩ : ∃ k, S.wait.length = k := ⟨_, rfl⟩
  have hk0 : ((k : Int) == 0) = false := by have := List.length_pos_iff.2 HE.out; simp; omega
  have c0 : ∀ p : Later w2, p.v.cell? ⟨b, 0, none⟩ = some (.pointer (some ⟨f.pb, 0, none⟩)) := fun p => p.cell H2.out.cells.1
  have c1 : ∀ p : Later w2, p.v.cell? ⟨b, 1, none⟩ = some (.pointer (some ⟨f.rb, 0, none⟩)) := fun p => p.cell H2.out.cells.2
  have LEN : Hid (∀ p : Later w2, Calls Try.prog 35 #[.pointer (some ⟨f.rb, 0, none⟩)] p.v fun r w' => r = .returned (.int .i64 k) ∧ p.v = w') := Lib.hid (fun p => by
    have := len_ring f.rb S.que S.wait p.v (H2.out.below p.low).rng
    rw [hk] at this
    exact this.mono (fun _ _ ⟨h, k⟩ => ⟨h, k.symm⟩))
  clear hk
  go_wp2
  refine wp_region_later (by kernel_rfl) (by kernel_rfl) ?_
  repeat (go_big_quiet_step (first | (go_at_call 35; with_reducible exact Calls.later_is (LEN.out _))))
  refine wpQuiet_nil ?_
  rintro w3 ⟨p3, h3⟩
  have b3 : Below w2.heap.size w2 w3 := h3 ▸ p3.low
  have H3 := Lib.hid (H2.out.below b3)
  have B3 : Hid (Below w.heap.size w w3) := Lib.hid (B2.out.trans (b3.mono B2.out.size))
  clear h3 p3 b3 c0 c1 LEN H2 B2
  obtain ⟨c0, c1⟩ := H3.out.cells
  have R3 := Lib.hid (push_some f.rb S.que x S.wait w3 H3.out.rng HQ.out HX.out)
  go_wp2_with fail
  refine R3.out.mono ?_
  rintro r w4 ⟨rfl, f4, r4⟩
  have H4 : Hid (Bul w4 b f (S.waits x)) := Lib.hid (H3.out.afterR f4 r4 (H.out.ok.waits HX.out HN.out HM.out HQ.out))
  have F4 : Hid (Frm f.F w w4) := Lib.hid ((Frm.of_below B3.out).trans (Fb.ofR f4) (fun _ _ h => h))
  clear f4 r4 R3 c0 c1
  go_wp2
  go_ret2
  exact ⟨rfl, H4.out, F4.out⟩
set_option maxHeartbeats 1000000 in
theorem admit_full0 (b : Nat) (f : Fb) (S : BU) (x : Int) (w : World) (h : Bul w b f S) (hx : wf64 x) (hn : x ∉ S.run) (hm : x ∉ S.wait) (hl : ¬ S.run.length < S.most) (he : S.wait = []) (hq : S.wait.length = S.que) :
    Calls Try.prog 20 #[.pointer (some ⟨b, 0, none⟩), .int .i64 x] w fun r w' => r = .returned (.tuple #[.int .i64 3, .slice none 0 0]) ∧ Below w.heap.size w w' := by
  have h1 := runs_bul b f S x w h hx
  rw [decide_eq_false hn] at h1
  have H := Lib.hid h
  have HX := Lib.hid hx
  have HN := Lib.hid hn
  have R1 := Lib.hid h1
  have HM := Lib.hid hm
  have HL := Lib.hid hl
  have HE := Lib.hid he
  have HQ := Lib.hid hq
  clear hm hl he hq
  clear h h1 hx hn
  go_enter Try.func20, Try.ntmps20
  go_wp2_with fail
  refine R1.out.mono ?_
  rintro r w1 ⟨rfl, b1⟩
  have h1 := H.out.below b1
  have h2 := waits_bul b f S x w1 h1
  rw [decide_eq_false HM.out] at h2
  have H1 := Lib.hid h1
  have B1 := Lib.hid b1
  have R2 := Lib.hid h2
  clear b1 h1 h2 R1
  go_wp2_with fail
  refine R2.out.mono ?_
  rintro r w2 ⟨rfl, b2⟩
  have H2 := Lib.hid (H1.out.below b2)
  have B2 := Lib.hid (B1.out.trans (b2.mono B1.out.size))
  clear b2 H1 B1 R2
  have c0 : ∀ p : Later w2, p.v.cell? ⟨b, 0, none⟩ = some (.pointer (some ⟨f.pb, 0, none⟩)) := fun p => p.cell H2.out.cells.1
  have c1 : ∀ p : Later w2, p.v.cell? ⟨b, 1, none⟩ = some (.pointer (some ⟨f.rb, 0, none⟩)) := fun p => p.cell H2.out.cells.2
  have LEN : Hid (∀ p : Later w2, Calls Try.prog 35 #[.pointer (some ⟨f.rb, 0, none⟩)] p.v fun r w' => r = .returned (.int .i64 0) ∧ p.v = w') := Lib.hid (fun p => by
    have := len_ring f.rb S.que S.wait p.v (H2.out.below p.low).rng
    rw [HE.out] at this
    exact this.mono (fun _ _ ⟨h, k⟩ => ⟨h, k.symm⟩))
  have TK : Hid (∀ p : Later w2, Calls Try.prog 36 #[.pointer (some ⟨f.pb, 0, none⟩), .agg #[.int .i64 x, .int .i64 0]] p.v fun r w' => r = .returned (.bool false) ∧ Below p.v.heap.size p.v w') :=
    Lib.hid (fun p => take_no f.pb f.m S.most (hol S.run) x 0 p.v (H2.out.below p.low).prm (wf_h HX.out) (.inl (by rw [length_hol]; exact HL.out)))
  go_wp2
  refine wp_region_later (by kernel_rfl) (by kernel_rfl) ?_
  repeat (go_big_quiet_step (first | (go_at_call 35; with_reducible exact Calls.later_is (LEN.out _)) | (go_at_call 32; with_reducible exact Calls.later_of (holder_any x _)) | (go_at_call 36; with_reducible exact Calls.later_of (TK.out _))))
  refine wpQuiet_nil ?_
  rintro w3 ⟨p3, h3⟩
  have b3 : Below w2.heap.size w2 w3 := h3 ▸ p3.low
  have H3 := Lib.hid (H2.out.below b3)
  have B3 : Hid (Below w.heap.size w w3) := Lib.hid (B2.out.trans (b3.mono B2.out.size))
  clear h3 p3 b3 c0 c1 LEN H2 B2
  obtain ⟨c0, c1⟩ := H3.out.cells
  have R3 := Lib.hid (push_full f.rb S.que x S.wait w3 H3.out.rng HQ.out)
  go_wp2_with fail
  refine R3.out.mono ?_
  rintro r w4 ⟨rfl, a4⟩
  have H4 := Lib.hid (H3.out.ali a4)
  have B4 := Lib.hid (below_ali B3.out a4)
  clear a4 R3 c0 c1 H3 B3
  have R4 := Lib.hid (pick_full b f S w4 H4.out HL.out)
  go_wp2_with fail
  refine R4.out.mono ?_
  rintro r w5 ⟨rfl, b5⟩
  have B5 := Lib.hid (B4.out.trans (b5.mono B4.out.size))
  clear b5 R4
  go_wp2
  go_ret2
  exact ⟨rfl, B5.out⟩
set_option maxHeartbeats 1000000 in
theorem admit_full1 (b : Nat) (f : Fb) (S : BU) (x : Int) (w : World) (h : Bul w b f S) (hx : wf64 x) (hn : x ∉ S.run) (hm : x ∉ S.wait) (hl : ¬ S.run.length < S.most) (he : S.wait ≠ []) (hq : S.wait.length = S.que) :
    Calls Try.prog 20 #[.pointer (some ⟨b, 0, none⟩), .int .i64 x] w fun r w' => r = .returned (.tuple #[.int .i64 3, .slice none 0 0]) ∧ Below w.heap.size w w' := by
  have h1 := runs_bul b f S x w h hx
  rw [decide_eq_false hn] at h1
  have H := Lib.hid h
  have HX := Lib.hid hx
  have HN := Lib.hid hn
  have R1 := Lib.hid h1
  have HM := Lib.hid hm
  have HL := Lib.hid hl
  have HE := Lib.hid he
  have HQ := Lib.hid hq
  clear hm hl he hq
  clear h h1 hx hn
  go_enter Try.func20, Try.ntmps20
  go_wp2_with fail
  refine R1.out.mono ?_
  rintro r w1 ⟨rfl, b1⟩
  have h1 := H.out.below b1
  have h2 := waits_bul b f S x w1 h1
  rw [decide_eq_false HM.out] at h2
  have H1 := Lib.hid h1
  have B1 := Lib.hid b1
  have R2 := Lib.hid h2
  clear b1 h1 h2 R1
  go_wp2_with fail
  refine R2.out.mono ?_
  rintro r w2 ⟨rfl, b2⟩
  have H2 := Lib.hid (H1.out.below b2)
  have B2 := Lib.hid (B1.out.trans (b2.mono B1.out.size))
  clear b2 H1 B1 R2
  obtain ⟨k, hk⟩ : ∃ k, S.wait.length = k := ⟨_, rfl⟩
  have hk0 : ((k : Int) == 0) = false := by have := List.length_pos_iff.2 HE.out; simp; omega
  have c0 : ∀ p : Later w2, p.v.cell? ⟨b, 0, none⟩ = some (.pointer (some ⟨f.pb, 0, none⟩)) := fun p => p.cell H2.out.cells.1
  have c1 : ∀ p : Later w2, p.v.cell? ⟨b, 1, none⟩ = some (.pointer (some ⟨f.rb, 0, none⟩)) := fun p => p.cell H2.out.cells.2
  have LEN : Hid (∀ p : Later w2, Calls Try.prog 35 #[.pointer (some ⟨f.rb, 0, none⟩)] p.v fun r w' => r = .returned (.int .i64 k) ∧ p.v = w') := Lib.hid (fun p => by
    have := len_ring f.rb S.que S.wait p.v (H2.out.below p.low).rng
    rw [hk] at this
    exact this.mono (fun _ _ ⟨h, k⟩ => ⟨h, k.symm⟩))
  clear hk
  go_wp2
  refine wp_region_later (by kernel_rfl) (by kernel_rfl) ?_
  repeat (go_big_quiet_step (first | (go_at_call 35; with_reducible exact Calls.later_is (LEN.out _))))
  refine wpQuiet_nil ?_
  rintro w3 ⟨p3, h3⟩
  have b3 : Below w2.heap.size w2 w3 := h3 ▸ p3.low
  have H3 := Lib.hid (H2.out.below b3)
  have B3 : Hid (Below w.heap.size w w3) := Lib.hid (B2.out.trans (b3.mono B2.out.size))
  clear h3 p3 b3 c0 c1 LEN H2 B2
  obtain ⟨c0, c1⟩ := H3.out.cells
  have R3 := Lib.hid (push_full f.rb S.que x S.wait w3 H3.out.rng HQ.out)
  go_wp2_with fail
  refine R3.out.mono ?_
  rintro r w4 ⟨rfl, a4⟩
  have H4 := Lib.hid (H3.out.ali a4)
  have B4 := Lib.hid (below_ali B3.out a4)
  clear a4 R3 c0 c1 H3 B3
  have R4 := Lib.hid (pick_full b f S w4 H4.out HL.out)
  go_wp2_with fail
  refine R4.out.mono ?_
  rintro r w5 ⟨rfl, b5⟩
  have B5 := Lib.hid (B4.out.trans (b5.mono B4.out.size))
  clear b5 R4
  go_wp2
  go_ret2
  exact ⟨rfl, B5.out⟩
theorem ints_new {base : Nat} (w : World) (x : Int) (hx : wf64 x) (hb : base ≤ w.heap.size) : Ints (w.alloc (.cells #[.int .i64 x] 3)) base (.slice (some ⟨w.heap.size, 0, none⟩) 1 1) [x] :=
  own_new (Has.new _ rfl) hb rfl (by simp) (by simpa using hx.lit) rfl
set_option maxHeartbeats 1000000 in
theorem admit_turn (b : Nat) (f : Fb) (S : BU) (x : Int) (w : World) (h : Bul w b f S) (hx : wf64 x) (hn : x ∉ S.run) (hm : x ∉ S.wait) (hl : S.run.length < S.most) (he : S.wait ≠ []) (hq : S.wait.length = S.que) :
    Calls Try.prog 20 #[.pointer (some ⟨b, 0, none⟩), .int .i64 x] w fun r w' => ∃ y v, r = .returned (.tuple #[.int .i64 2, v]) ∧ Ints w' w.heap.size v [y] ∧ ∃ l, S.wait = y :: l ∧ Bul w' b f ((S.turn y l).waits x) ∧ Frm f.F w w' := by
  have h1 := runs_bul b f S x w h hx
  rw [decide_eq_false hn] at h1
  have H := Lib.hid h
  have HX := Lib.hid hx
  have HN := Lib.hid hn
  have R1 := Lib.hid h1
  have HM := Lib.hid hm
  have HL := Lib.hid hl
  have HE := Lib.hid he
  have HQ := Lib.hid hq
  clear hm hl he hq
  clear h h1 hx hn
  go_enter Try.func20, Try.ntmps20
  go_wp2_with fail
  refine R1.out.mono ?_
  rintro r w1 ⟨rfl, b1⟩
  have h1 := H.out.below b1
  have h2 := waits_bul b f S x w1 h1
  rw [decide_eq_false HM.out] at h2
  have H1 := Lib.hid h1
  have B1 := Lib.hid b1
  have R2 := Lib.hid h2
  clear b1 h1 h2 R1
  go_wp2_with fail
  refine R2.out.mono ?_
  rintro r w2 ⟨rfl, b2⟩
  have H2 := Lib.hid (H1.out.below b2)
  have B2 := Lib.hid (B1.out.trans (b2.mono B1.out.size))
  clear b2 H1 B1 R2
  obtain ⟨k, hk⟩ : ∃ k, S.wait.length = k := ⟨_, rfl⟩
  have hk0 : ((k : Int) == 0) = false := by have := List.length_pos_iff.2 HE.out; simp; omega
  have c0 : ∀ p : Later w2, p.v.cell? ⟨b, 0, none⟩ = some (.pointer (some ⟨f.pb, 0, none⟩)) := fun p => p.cell H2.out.cells.1
  have c1 : ∀ p : Later w2, p.v.cell? ⟨b, 1, none⟩ = some (.pointer (some ⟨f.rb, 0, none⟩)) := fun p => p.cell H2.out.cells.2
  have LEN : Hid (∀ p : Later w2, Calls Try.prog 35 #[.pointer (some ⟨f.rb, 0, none⟩)] p.v fun r w' => r = .returned (.int .i64 k) ∧ p.v = w') := Lib.hid (fun p => by
    have := len_ring f.rb S.que S.wait p.v (H2.out.below p.low).rng
    rw [hk] at this
    exact this.mono (fun _ _ ⟨h, k⟩ => ⟨h, k.symm⟩))
  clear hk
  go_wp2
  refine wp_region_later (by kernel_rfl) (by kernel_rfl) ?_
  repeat (go_big_quiet_step (first | (go_at_call 35; with_reducible exact Calls.later_is (LEN.out _))))
  refine wpQuiet_nil ?_
  rintro w3 ⟨p3, h3⟩
  have b3 : Below w2.heap.size w2 w3 := h3 ▸ p3.low
  have H3 := Lib.hid (H2.out.below b3)
  have B3 : Hid (Below w.heap.size w w3) := Lib.hid (B2.out.trans (b3.mono B2.out.size))
  clear h3 p3 b3 c0 c1 LEN H2 B2
  obtain ⟨c0, c1⟩ := H3.out.cells
  have R3 := Lib.hid (push_full f.rb S.que x S.wait w3 H3.out.rng HQ.out)
  go_wp2_with fail
  refine R3.out.mono ?_
  rintro r w4 ⟨rfl, a4⟩
  have H4 := Lib.hid (H3.out.ali a4)
  have B4 := Lib.hid (below_ali B3.out a4)
  clear a4 R3 c0 c1 H3 B3
  obtain ⟨y, l, hyl⟩ : ∃ y l, S.wait = y :: l := by cases e : S.wait with
    | nil => exact (HE.out e).elim
    | cons y l => exact ⟨y, l, rfl⟩
  have R4 := Lib.hid (pick_one b f S y l w4 H4.out HL.out hyl)
  have HYL := Lib.hid hyl
  have hlq : l.length < S.que := by have := HQ.out; rw [hyl] at this; simp at this; omega
  have hnt : x ∉ S.run ++ [y] := fun hc => by
    rcases BU.mem_snoc hc with hc | hc
    · exact HN.out hc
    · exact HM.out (by rw [hyl, hc]; simp)
  have hmt : x ∉ l := fun hc => HM.out (by rw [hyl]; simp [hc])
  have ok5 : (S.turn y l).Ok := H.out.ok.turn hyl HL.out
  have wy : wf64 y := H.out.ok.ww y (by rw [hyl]; simp)
  have LQ := Lib.hid hlq
  have NT := Lib.hid hnt
  have MT := Lib.hid hmt
  have OK5 := Lib.hid ok5
  have WY := Lib.hid wy
  clear hyl hlq hnt hmt ok5 wy
  go_wp2_with fail
  refine R4.out.mono ?_
  rintro r w5 ⟨rfl, h5, f5⟩
  obtain ⟨c0, c1⟩ := h5.cells
  have H5 := Lib.hid h5
  have F5 : Hid (Frm f.F w w5) := Lib.hid ((Frm.of_below B4.out).trans f5 (fun _ _ h => h))
  have R5 := Lib.hid (push_some f.rb S.que x l w5 h5.rng LQ.out HX.out)
  clear h5 f5 R4
  go_wp2_with fail
  refine R5.out.mono ?_
  rintro r w6 ⟨rfl, f6, r6⟩
  have H6 : Hid (Bul w6 b f ((S.turn y l).waits x)) := Lib.hid (H5.out.afterR f6 r6 (OK5.out.waits HX.out NT.out MT.out LQ.out))
  have F6 : Hid (Frm f.F w w6) := Lib.hid (F5.out.trans (Fb.ofR f6) (fun _ _ h => h))
  clear f6 r6 R5 c0 c1 H5 F5
  go_wp2
  go_ret2
  exact ⟨y, _, rfl, ints_new w6 y WY.out (F6.out.size), l, HYL.out, H6.out.alloc _, F6.out.alloc _⟩
/-- Admit, as it comes. -/
theorem admit_bul (b : Nat) (f : Fb) (S : BU) (x : Int) (w : World) (h : Bul w b f S) (hx : wf64 x) :
    Calls Try.prog 20 #[.pointer (some ⟨b, 0, none⟩), .int .i64 x] w fun r w' => ∃ v, r = .returned (.tuple #[.int .i64 (S.tells x), v]) ∧ Ints w' w.heap.size v (S.lets x) ∧ Bul w' b f (S.adm x) ∧ Frm f.F w w' := by
  have hlw := h.ok.lw
  by_cases h0 : x ∈ S.run ∨ x ∈ S.wait
  · rw [show S.tells x = 3 by simp [BU.tells, h0], show S.lets x = [] by simp [BU.lets, h0], show S.adm x = S by simp [BU.adm, h0]]
    have hA : Calls Try.prog 20 #[.pointer (some ⟨b, 0, none⟩), .int .i64 x] w fun r w' => r = .returned (.tuple #[.int .i64 3, .slice none 0 0]) ∧ Below w.heap.size w w' := by
      by_cases hn : x ∈ S.run
      · exact admit_runs b f S x w h hx hn
      · exact admit_waits b f S x w h hx hn (h0.resolve_left hn)
    refine hA.mono ?_
    rintro r w' ⟨rfl, hb⟩
    exact ⟨_, rfl, Ints.nil _ _, h.below hb, Frm.of_below hb⟩
  · have hn : x ∉ S.run := fun e => h0 (.inl e)
    have hm : x ∉ S.wait := fun e => h0 (.inr e)
    by_cases h1 : S.run.length < S.most ∧ S.wait = []
    · rw [show S.tells x = 1 by simp only [BU.tells, if_neg h0, if_pos h1], show S.lets x = [] by simp only [BU.lets, if_neg h0, if_pos h1], show S.adm x = S.runs x by simp only [BU.adm, if_neg h0, if_pos h1]]
      refine (admit_run b f S x w h hx hn hm h1.1 h1.2).mono ?_
      rintro r w' ⟨rfl, h2, h3⟩
      exact ⟨_, rfl, Ints.nil _ _, h2, h3⟩
    · by_cases h2 : S.wait.length < S.que
      · rw [show S.tells x = 2 by simp only [BU.tells, if_neg h0, if_neg h1, if_pos h2], show S.lets x = [] by simp only [BU.lets, if_neg h0, if_neg h1, if_pos h2], show S.adm x = S.waits x by simp only [BU.adm, if_neg h0, if_neg h1, if_pos h2]]
        have hA : Calls Try.prog 20 #[.pointer (some ⟨b, 0, none⟩), .int .i64 x] w fun r w' => r = .returned (.tuple #[.int .i64 2, .slice none 0 0]) ∧ Bul w' b f (S.waits x) ∧ Frm f.F w w' := by
          by_cases he : S.wait = []
          · exact admit_wait0 b f S x w h hx hn hm (fun hl => h1 ⟨hl, he⟩) he h2
          · exact admit_wait1 b f S x w h hx hn hm he h2
        refine hA.mono ?_
        rintro r w' ⟨rfl, h2, h3⟩
        exact ⟨_, rfl, Ints.nil _ _, h2, h3⟩
      · have hq : S.wait.length = S.que := by omega
        cases he : S.wait with
        | nil =>
          have hl : ¬ S.run.length < S.most := fun hl => h1 ⟨hl, he⟩
          rw [show S.tells x = 3 by unfold BU.tells; rw [if_neg h0, if_neg h1, if_neg h2]; simp only [he], show S.lets x = [] by unfold BU.lets; rw [if_neg h0, if_neg h1, if_neg h2]; simp only [he], show S.adm x = S by unfold BU.adm; rw [if_neg h0, if_neg h1, if_neg h2]; simp only [he]]
          refine (admit_full0 b f S x w h hx hn hm hl he hq).mono ?_
          rintro r w' ⟨rfl, hb⟩
          exact ⟨_, rfl, Ints.nil _ _, h.below hb, Frm.of_below hb⟩
        | cons y l =>
          have hne : S.wait ≠ [] := by rw [he]; simp
          by_cases hl : S.run.length < S.most
          · rw [show S.tells x = 2 by unfold BU.tells; rw [if_neg h0, if_neg h1, if_neg h2]; simp only [he, if_pos hl], show S.lets x = [y] by unfold BU.lets; rw [if_neg h0, if_neg h1, if_neg h2]; simp only [he, if_pos hl], show S.adm x = (S.turn y l).waits x by unfold BU.adm; rw [if_neg h0, if_neg h1, if_neg h2]; simp only [he, if_pos hl]]
            refine (admit_turn b f S x w h hx hn hm hl hne hq).mono ?_
            rintro r w' ⟨y', v, rfl, hi, l', e, h5, h6⟩
            rw [he] at e
            injection e with e1 e2
            subst e1 e2
            exact ⟨_, rfl, hi, h5, h6⟩
          · rw [show S.tells x = 3 by unfold BU.tells; rw [if_neg h0, if_neg h1, if_neg h2]; simp only [he, if_neg hl], show S.lets x = [] by unfold BU.lets; rw [if_neg h0, if_neg h1, if_neg h2]; simp only [he, if_neg hl], show S.adm x = S by unfold BU.adm; rw [if_neg h0, if_neg h1, if_neg h2]; simp only [he, if_neg hl]]
            refine (admit_full1 b f S x w h hx hn hm hl hne hq).mono ?_
            rintro r w' ⟨rfl, hb⟩
            exact ⟨_, rfl, Ints.nil _ _, h.below hb, Frm.of_below hb⟩
end Go.Proofs.Ytnmcnniilihecaa
