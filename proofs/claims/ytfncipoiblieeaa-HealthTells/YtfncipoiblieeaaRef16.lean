/- Contracts of porpoiseref16: Errors, Volume, Opens, Kind. -/
import Derived.Test.YtfncipoiblieeaaHea
namespace Go.Proofs.Ytfncipoiblieeaa
set_option linter.unusedVariables false
open Go.ChangeShapes Go.WideShapes Go.ChangeAt Go.RowKit Go.Deep

theorem rkind_any (n : Int) (w : World) : Calls Try.prog 11 #[.int .i64 n] w fun r w' => r = .returned (.tuple #[.int .i64 (if 1 ≤ n ∧ n ≤ 4 then n else 0), .bool (decide (1 ≤ n ∧ n ≤ 4))]) ∧ w' = w := by
  by_cases h : 1 ≤ n ∧ n ≤ 4
  · rw [if_pos h, decide_eq_true h]
    have e1 : ¬ n < 1 := by omega
    have e4 : ¬ 4 < n := by omega
    clear h
    go_enter Try.func11, Try.ntmps11
    go_wp2
    go_ret2
    exact ⟨rfl, rfl⟩
  · rw [if_neg h, decide_eq_false h]
    by_cases e1 : n < 1
    · clear h
      go_enter Try.func11, Try.ntmps11
      go_wp2
      go_ret2
      exact ⟨rfl, rfl⟩
    · have e4 : 4 < n := by omega
      clear h
      go_enter Try.func11, Try.ntmps11
      go_wp2
      go_ret2
      exact ⟨rfl, rfl⟩

set_option maxHeartbeats 1000000 in
theorem rerrors_any (k : K5) (w : World) (hk : k.Fits) : Calls Try.prog 13 #[.agg (aggV k.vals)] w fun r w' => r = .returned (.int .u64 k.errs) ∧ Below w.heap.size w w' := by
  obtain ⟨g, hg⟩ : ∃ g, w.heap.size = g := ⟨_, rfl⟩
  have hE : k.errs = sumS [k.c1, k.c2, k.c3] := rfl
  have HE := Lib.hid hE
  generalize k.errs = e at *
  have HG := Lib.hid hg
  clear hE
  go_enter Try.func13, Try.ntmps13
  go_wp2_with (refine wpList_box_agg rfl 23 _ rfl g hg k.vals rfl ?_; intro w1 h1 b1 s1; obtain ⟨p0, p1, p2, p3, p4⟩ := cells5 h1; clear h1)
  have hr : Row .u64 (w1.alloc (.cells #[.int .u64 k.c1, .int .u64 k.c2, .int .u64 k.c3] 22)) (some ⟨w1.heap.size, 0, none⟩) 3 [k.c1, k.c2, k.c3] := by
    refine ⟨Nat.le_refl _, by decide, .inr ⟨_, _, rfl, fun j hj => ?_⟩, ?_⟩
    · rw [cell_of (heap_alloc_at w1 _), Nat.zero_add]
      have hj' : j < 3 := hj
      rcases (show j = 0 ∨ j = 1 ∨ j = 2 by omega) with rfl | rfl | rfl <;> rfl
    · intro n hn
      simp only [List.mem_cons, List.not_mem_nil, or_false] at hn
      have f1 := hk.f1; have f2 := hk.f2; have f3 := hk.f3
      rcases hn with rfl | rfl | rfl
      all_goals exact WalkArith.wf_u64 (by omega)
  have hs := rsum_any _ 3 3 _ _ hr
  rw [s1] at hs
  refine hs.mono ?_
  clear hs hr
  rintro r w2 ⟨rfl, rfl⟩
  go_wp2
  go_ret
  refine ⟨by rw [HE.out]; rfl, ?_⟩
  rw [HG.out]
  exact b1.trans ((below_alloc w1 _).mono (by omega))

set_option maxHeartbeats 1000000 in
theorem rvolume_any (k : K5) (w : World) (hk : k.Fits) : Calls Try.prog 15 #[.agg (aggV k.vals)] w fun r w' => r = .returned (.int .u64 k.vol) ∧ Below w.heap.size w w' := by
  obtain ⟨g, hg⟩ : ∃ g, w.heap.size = g := ⟨_, rfl⟩
  have hv : k.vol = addS k.c0 k.errs := rfl
  have HEE := Lib.hid (fun v => rerrors_any k v hk)
  have heb := hk.errs
  have h0b := hk.f0
  have HSK := Lib.hid (sizeK5 k)
  have HC : Hid (∀ (v : World) (ty : TypeId) (g : Nat), v.heap[g]? = some (vobj ty k.vals) → v.cell? ⟨g, 0, none⟩ = some (.int .u64 k.c0)) := Lib.hid (fun v ty g h => vobj_cell h rfl)
  rw [hv]
  generalize k.errs = er at *
  generalize k.c0 = x0 at *
  generalize k.vals = kv at *
  have HA := Lib.hid (fun v => radd_any x0 er v h0b.1 heb.1 h0b.2 heb.2)
  have HG := Lib.hid hg
  clear hv
  generalize addS x0 er = vo at *
  go_enter Try.func15, Try.ntmps15
  go_wp2_with (refine wpList_box_agg rfl 23 _ rfl g hg kv rfl ?_; intro w1 h1 b1 s1)
  have q0 := HC.out _ _ _ h1
  have v0 := fun p : Later w1 => p.cell q0
  have ld : ∀ p : Later w1, (Instr.loadAt 23 (.pointer (some ⟨g, 0, none⟩))).run Try.prog p.v = .ok (.agg (aggV kv)) p.v := fun p => run_loadAt_agg _ _ _ _ _ (p.heap h1) undK rfl HSK.out
  refine wp_region_later (by kernel_rfl) (by kernel_rfl) ?_
  repeat (first
    | (refine wpQuiet_load rfl 23 _ rfl g rfl (.agg (aggV kv)) ld ?_; simp only [Act.put, List.setIfInBounds_toArray, List.set_cons_zero, List.set_cons_succ])
    | go_big_quiet_step (first | (go_at_call 13; with_reducible exact Calls.later_of (HEE.out _)) | (go_at_call 26; with_reducible exact Calls.later_is (HA.out _))))
  refine wpQuiet_nil ?_
  rintro w4 ⟨⟨_, b4⟩, rfl⟩
  go_wp2
  go_ret
  refine ⟨rfl, ?_⟩
  rw [HG.out]
  exact b1.trans (b4.mono (by omega))

set_option maxHeartbeats 1000000 in
theorem ropens_any (k : K5) (f : Cnf) (w : World) (hk : k.Fits) (hf : f.Fits) : Calls Try.prog 17 #[.agg (aggV k.vals), .agg (aggV f.vals)] w fun r w' => r = .returned (.bool (k.opens f.volume f.percent)) ∧ Below w.heap.size w w' := by
  obtain ⟨g, hg⟩ : ∃ g, w.heap.size = g := ⟨_, rfl⟩
  have HG := Lib.hid hg
  obtain ⟨V, hV⟩ : ∃ V, f.volume = V := ⟨_, rfl⟩
  obtain ⟨p, hp⟩ : ∃ p, f.percent = p := ⟨_, rfl⟩
  have hVb := hf.volume
  have hpb := hf.percent
  rw [hV] at hVb
  rw [hp] at hpb
  have HVV := Lib.hid (fun v => rvolume_any k v hk)
  have HEE := Lib.hid (fun v => rerrors_any k v hk)
  have HLK : Hid (∀ (v : World) (ty : TypeId) (g : Nat), v.heap[g]? = some (vobj ty f.vals) → v.cell? ⟨g, 8, none⟩ = some (.int .i64 V) ∧ v.cell? ⟨g, 9, none⟩ = some (.int .i64 p)) := Lib.hid (fun v ty g h => ⟨by rw [← hV]; exact vobj_cell h rfl, by rw [← hp]; exact vobj_cell h rfl⟩)
  have HSK := Lib.hid (sizeK5 k)
  have hvb := hk.vol
  have heb := hk.errs
  have HP := Lib.hid (fun v => ratLeast_any k.errs k.vol p v heb.1 hvb.1 heb.2 hvb.2 hpb.1 hpb.2)
  have ha : k.opens f.volume f.percent = (decide ((if 1 < V then V else 1) ≤ k.vol) && partB k.errs k.vol p) := by rw [hp, hV]; rfl
  rw [ha]
  clear ha hV hp
  generalize partB k.errs k.vol p = pb at *
  generalize k.vol = vo at *
  generalize k.errs = er at *
  generalize k.vals = kv at *
  generalize f.vals = fv at *
  obtain ⟨mx, hmx⟩ : ∃ mx, (if 1 < V then V else 1) = mx := ⟨_, rfl⟩
  have hwm : 1 < V → IntKind.u64.wrap V = mx := by intro h; rw [IntKind.wrap_u64, ← hmx, if_pos h]; omega
  have hw1 : ¬ 1 < V → mx = 1 := by intro h; rw [← hmx, if_neg h]
  have hmb : 1 ≤ mx ∧ mx ≤ 9223372036854775807 := by rw [← hmx]; split <;> omega
  rw [hmx]
  clear hmx
  obtain ⟨ans, hans⟩ : ∃ ans, (decide (mx ≤ vo) && pb) = ans := ⟨_, rfl⟩
  rw [hans]
  have HA := Lib.hid hans
  have HW := Lib.hid hwm
  have HW1 := Lib.hid hw1
  clear hans hwm hw1
  go_enter Try.func17, Try.ntmps17
  go_wp2_with (first
    | (refine wpList_box_agg rfl 23 _ rfl g hg kv rfl ?_; intro w1 h1 b1 s1)
    | (refine wpList_box_agg rfl 25 _ rfl (g + 1) s1 fv rfl ?_; intro w2 h2 b2 s2; have h1' := kb_below h1 (b2.mono (by omega)); obtain ⟨q8, q9⟩ := HLK.out _ _ _ h2; have B2 := Lib.hid (b1.trans (b2.mono (by omega : g ≤ g + 1))); clear b1 b2 h1 s1)
    | (refine wpList_load_agg rfl 23 _ rfl g rfl kv h1' _ undK rfl HSK.out ?_))
  · obtain rfl : mx = V := by rw [← HW.out (by assumption), IntKind.wrap_u64]; omega
    clear HW HW1
    refine (HVV.out _).mono ?_
    rintro r w5 ⟨rfl, b5⟩
    have i1 := kb_below h1' b5
    have i2 := kb_below h2 b5
    have B5 := Lib.hid (B2.out.trans (b5.mono (by have := B2.out.size; omega : g ≤ _)))
    clear h1' h2 b5 B2 q8 q9 s2
    obtain ⟨q8, q9⟩ := HLK.out _ _ _ i2
    have ld : ∀ p : Later w5, (Instr.loadAt 23 (.pointer (some ⟨g, 0, none⟩))).run Try.prog p.v = .ok (.agg (aggV kv)) p.v := fun p => run_loadAt_agg _ _ _ _ _ (p.heap i1) undK rfl HSK.out
    have v8 := fun p : Later w5 => p.cell q8
    have v9 := fun p : Later w5 => p.cell q9
    by_cases hle : mx ≤ vo
    · have hd : decide (mx ≤ vo) = true := decide_eq_true hle
      go_wp2
      refine wp_region_later (by kernel_rfl) (by kernel_rfl) ?_
      repeat (first
        | (refine wpQuiet_load rfl 23 _ rfl g rfl (.agg (aggV kv)) ld ?_; simp only [Act.put, List.setIfInBounds_toArray, List.set_cons_zero, List.set_cons_succ])
        | go_big_quiet_step (first | (go_at_call 13; with_reducible exact Calls.later_of (HEE.out _)) | (go_at_call 29; with_reducible exact Calls.later_is (HP.out _))))
      refine wpQuiet_nil ?_
      rintro w6 ⟨⟨_, b6⟩, rfl⟩
      go_wp2
      go_ret
      refine ⟨by rw [← HA.out, hd]; rfl, ?_⟩
      rw [HG.out]
      exact B5.out.trans (b6.mono (by have := B5.out.size; omega))
    · have hd : decide (mx ≤ vo) = false := decide_eq_false hle
      go_wp2
      refine wp_region_later (by kernel_rfl) (by kernel_rfl) ?_
      repeat (first
        | (refine wpQuiet_load rfl 23 _ rfl g rfl (.agg (aggV kv)) ld ?_; simp only [Act.put, List.setIfInBounds_toArray, List.set_cons_zero, List.set_cons_succ])
        | go_big_quiet_step (first | (go_at_call 13; with_reducible exact Calls.later_of (HEE.out _)) | (go_at_call 29; with_reducible exact Calls.later_is (HP.out _))))
      refine wpQuiet_nil ?_
      rintro w6 ⟨⟨_, b6⟩, rfl⟩
      go_wp2
      go_ret
      refine ⟨by rw [← HA.out, hd]; rfl, ?_⟩
      rw [HG.out]
      exact B5.out.trans (b6.mono (by have := B5.out.size; omega))
  · obtain rfl : mx = 1 := HW1.out (by omega)
    clear HW HW1
    refine (HVV.out _).mono ?_
    rintro r w5 ⟨rfl, b5⟩
    have i1 := kb_below h1' b5
    have i2 := kb_below h2 b5
    have B5 := Lib.hid (B2.out.trans (b5.mono (by have := B2.out.size; omega : g ≤ _)))
    clear h1' h2 b5 B2 q8 q9 s2
    obtain ⟨q8, q9⟩ := HLK.out _ _ _ i2
    have ld : ∀ p : Later w5, (Instr.loadAt 23 (.pointer (some ⟨g, 0, none⟩))).run Try.prog p.v = .ok (.agg (aggV kv)) p.v := fun p => run_loadAt_agg _ _ _ _ _ (p.heap i1) undK rfl HSK.out
    have v8 := fun p : Later w5 => p.cell q8
    have v9 := fun p : Later w5 => p.cell q9
    by_cases hle : 1 ≤ vo
    · have hd : decide (1 ≤ vo) = true := decide_eq_true hle
      go_wp2
      refine wp_region_later (by kernel_rfl) (by kernel_rfl) ?_
      repeat (first
        | (refine wpQuiet_load rfl 23 _ rfl g rfl (.agg (aggV kv)) ld ?_; simp only [Act.put, List.setIfInBounds_toArray, List.set_cons_zero, List.set_cons_succ])
        | go_big_quiet_step (first | (go_at_call 13; with_reducible exact Calls.later_of (HEE.out _)) | (go_at_call 29; with_reducible exact Calls.later_is (HP.out _))))
      refine wpQuiet_nil ?_
      rintro w6 ⟨⟨_, b6⟩, rfl⟩
      go_wp2
      go_ret
      refine ⟨by rw [← HA.out, hd]; rfl, ?_⟩
      rw [HG.out]
      exact B5.out.trans (b6.mono (by have := B5.out.size; omega))
    · have hd : decide (1 ≤ vo) = false := decide_eq_false hle
      go_wp2
      refine wp_region_later (by kernel_rfl) (by kernel_rfl) ?_
      repeat (first
        | (refine wpQuiet_load rfl 23 _ rfl g rfl (.agg (aggV kv)) ld ?_; simp only [Act.put, List.setIfInBounds_toArray, List.set_cons_zero, List.set_cons_succ])
        | go_big_quiet_step (first | (go_at_call 13; with_reducible exact Calls.later_of (HEE.out _)) | (go_at_call 29; with_reducible exact Calls.later_is (HP.out _))))
      refine wpQuiet_nil ?_
      rintro w6 ⟨⟨_, b6⟩, rfl⟩
      go_wp2
      go_ret
      refine ⟨by rw [← HA.out, hd]; rfl, ?_⟩
      rw [HG.out]
      exact B5.out.trans (b6.mono (by have := B5.out.size; omega))
end Go.Proofs.Ytfncipoiblieeaa
