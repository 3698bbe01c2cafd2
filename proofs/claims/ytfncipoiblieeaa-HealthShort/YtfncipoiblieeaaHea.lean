/- Contracts of package health's Errors, Volume, calls, Opens, Kind. -/
import Derived.Test.YtfncipoiblieeaaCnfCell
import Derived.Test.YtfncipoiblieeaaLater
import Derived.Test.YtfncipoiblieeaaSame
import Derived.Test.YtfncipoiblieeaaSatTwo
import Derived.Test.YtfncipoiblieeaaSatPart
import Derived.Deep.RegionLaw
import Derived.Deep.RegionHeld3
import Derived.Deep.DeepCutAuto
namespace Go.Proofs.Ytfncipoiblieeaa
set_option linter.unusedVariables false
open Go.ChangeShapes Go.WideShapes Go.ChangeAt Go.RowKit Go.Deep

/-- Counts of the five kinds. -/
structure K5 where
  c0 : Int
  c1 : Int
  c2 : Int
  c3 : Int
  c4 : Int
deriving DecidableEq
namespace K5
def L (k : K5) : List Int := [k.c0, k.c1, k.c2, k.c3, k.c4]
def vals (k : K5) : List Value := [.int .u64 k.c0, .int .u64 k.c1, .int .u64 k.c2, .int .u64 k.c3, .int .u64 k.c4]
structure Fits (k : K5) : Prop where
  f0 : 0 ≤ k.c0 ∧ k.c0 ≤ 18446744073709551615
  f1 : 0 ≤ k.c1 ∧ k.c1 ≤ 18446744073709551615
  f2 : 0 ≤ k.c2 ∧ k.c2 ≤ 18446744073709551615
  f3 : 0 ≤ k.c3 ∧ k.c3 ≤ 18446744073709551615
  f4 : 0 ≤ k.c4 ∧ k.c4 ≤ 18446744073709551615
def errs (k : K5) : Int := sumS [k.c1, k.c2, k.c3]
def vol (k : K5) : Int := addS k.c0 k.errs
def opens (k : K5) (volume percent : Int) : Bool := decide ((if 1 < volume then volume else 1) ≤ k.vol) && partB k.errs k.vol percent
def zero : K5 := ⟨0, 0, 0, 0, 0⟩
/-- Without what was short. -/
def bare (k : K5) : K5 := { k with c4 := 0 }
theorem len_vals (k : K5) : k.vals.length = 5 := rfl
theorem ones (k : K5) : Ones k.vals := by
  intro v hv
  simp only [vals, List.mem_cons, List.not_mem_nil, or_false] at hv
  rcases hv with rfl | rfl | rfl | rfl | rfl <;> rfl
theorem Fits.errs {k : K5} (h : k.Fits) : 0 ≤ k.errs ∧ k.errs ≤ 18446744073709551615 := sumS_bd _ (by
  intro n hn
  simp only [List.mem_cons, List.not_mem_nil, or_false] at hn
  have := h.f1.1; have := h.f2.1; have := h.f3.1
  rcases hn with rfl | rfl | rfl <;> assumption)
theorem Fits.vol {k : K5} (h : k.Fits) : 0 ≤ k.vol ∧ k.vol ≤ 18446744073709551615 := addS_bd h.f0.1 h.errs.1
theorem errs_eq {k : K5} (h : k.Fits) : k.errs = addS (addS k.c1 k.c2) k.c3 := by
  have h1 := h.f1
  unfold K5.errs sumS
  simp only [List.foldl]
  rw [show addS 0 k.c1 = k.c1 by unfold addS; rw [if_pos (by omega)]; omega]
/-- The errors, and the volume: all together, or the greatest number. -/
theorem errs_is {k : K5} (h : k.Fits) : k.errs = if k.c1 + k.c2 + k.c3 ≤ 18446744073709551615 then k.c1 + k.c2 + k.c3 else 18446744073709551615 := by
  have h1 := h.f1; have h2 := h.f2; have h3 := h.f3
  rw [errs_eq h]
  unfold addS
  repeat' split
  all_goals omega
theorem vol_is {k : K5} (h : k.Fits) : k.vol = if k.c0 + k.c1 + k.c2 + k.c3 ≤ 18446744073709551615 then k.c0 + k.c1 + k.c2 + k.c3 else 18446744073709551615 := by
  have h0 := h.f0; have h1 := h.f1; have h2 := h.f2; have h3 := h.f3
  unfold K5.vol
  rw [errs_is h]
  unfold addS
  repeat' split
  all_goals omega
theorem vals_inj {a b : K5} (h : a.vals = b.vals) : a = b := by
  cases a; cases b
  simpa [vals] using h
theorem bare_fits {k : K5} (h : k.Fits) : k.bare.Fits := ⟨h.f0, h.f1, h.f2, h.f3, ⟨by simp [bare], by simp [bare]⟩⟩
theorem zero_fits : K5.zero.Fits := ⟨by decide, by decide, by decide, by decide, by decide⟩
/-- Without calls there is no volume. -/
theorem vol_none {k : K5} (h : k.Fits) : k.bare = K5.zero ↔ k.vol = 0 := by
  have h0 := h.f0; have h1 := h.f1; have h2 := h.f2; have h3 := h.f3
  rw [vol_is h]
  constructor
  · intro e
    have e0 := congrArg K5.c0 e; have e1 := congrArg K5.c1 e; have e2 := congrArg K5.c2 e; have e3 := congrArg K5.c3 e
    simp only [bare, zero] at e0 e1 e2 e3
    rw [if_pos (by omega)]; omega
  · intro e
    split at e
    · unfold bare zero
      cases k
      simp only at *
      simp only [K5.mk.injEq]
      exact ⟨by omega, by omega, by omega, by omega, trivial⟩
    · omega
theorem flat {k : K5} (h : k.Fits) : Flat [.int .u64, .int .u64, .int .u64, .int .u64, .int .u64] k.vals :=
  ⟨⟨_, rfl, WalkArith.wf_u64 ⟨h.f0.1, by have := h.f0.2; omega⟩⟩, ⟨_, rfl, WalkArith.wf_u64 ⟨h.f1.1, by have := h.f1.2; omega⟩⟩, ⟨_, rfl, WalkArith.wf_u64 ⟨h.f2.1, by have := h.f2.2; omega⟩⟩, ⟨_, rfl, WalkArith.wf_u64 ⟨h.f3.1, by have := h.f3.2; omega⟩⟩, ⟨_, rfl, WalkArith.wf_u64 ⟨h.f4.1, by have := h.f4.2; omega⟩⟩, trivial⟩
end K5
theorem k5_flat {c : Array Value} (h : Flat [.int .u64, .int .u64, .int .u64, .int .u64, .int .u64] c.toList) : ∃ k : K5, c = aggV k.vals ∧ k.Fits := by
  obtain ⟨l⟩ := c
  match l, h with
  | [_, _, _, _, _], ⟨⟨n0, e0, u0⟩, ⟨n1, e1, u1⟩, ⟨n2, e2, u2⟩, ⟨n3, e3, u3⟩, ⟨n4, e4, u4⟩, _⟩ =>
    subst e0 e1 e2 e3 e4
    exact ⟨⟨n0, n1, n2, n3, n4⟩, rfl, ⟨wf_u64 u0, wf_u64 u1, wf_u64 u2, wf_u64 u3, wf_u64 u4⟩⟩
theorem undK : Try.prog.underlying 23 = some (.array 5 22) := by kernel_rfl
theorem sizeK5 (k : K5) : (Try.prog.info? 23).map (·.size) = some k.vals.length := by rw [k.len_vals]; kernel_rfl
theorem allocK (w : World) : (Instr.alloc 23 true (.tuple #[])).run Try.prog w = .ok (.pointer (some ⟨w.heap.size, 0, none⟩)) (w.alloc (vobj 23 K5.zero.vals)) := by kernel_rfl
theorem loadK5 {w : World} {g : Nat} {k : K5} (h : w.heap[g]? = some (vobj 23 k.vals)) : (loadVar 23 ⟨g, 0, none⟩).run Try.prog w = .ok (.agg (aggV k.vals)) w :=
  run_load_agg w _ g k.vals _ h undK rfl (sizeK5 k)
theorem cells5 {w : World} {g : Nat} {k : K5} {ty : TypeId} (h : w.heap[g]? = some (vobj ty k.vals)) : w.cell? ⟨g, 0, none⟩ = some (.int .u64 k.c0) ∧ w.cell? ⟨g, 1, none⟩ = some (.int .u64 k.c1) ∧ w.cell? ⟨g, 2, none⟩ = some (.int .u64 k.c2) ∧ w.cell? ⟨g, 3, none⟩ = some (.int .u64 k.c3) ∧ w.cell? ⟨g, 4, none⟩ = some (.int .u64 k.c4) :=
  ⟨vobj_cell h rfl, vobj_cell h rfl, vobj_cell h rfl, vobj_cell h rfl, vobj_cell h rfl⟩
theorem eq5_yes {a : K5} (h : a.Fits) (w : World) : (Op.equalIn 10000 23 (.agg (aggV a.vals)) (.agg (aggV a.vals))).run Try.prog w = .ok true w :=
  same_yes (P := Try.prog) (t := 23) 8 (by decide) (by kernel_rfl) (by kernel_rfl) (by kernel_rfl) (by kernel_rfl) (K5.flat h) w
theorem eq5_no {a b : K5} (h : a.Fits) (h' : b.Fits) (hn : a ≠ b) (w : World) : (Op.equalIn 10000 23 (.agg (aggV a.vals)) (.agg (aggV b.vals))).run Try.prog w = .ok false w :=
  same_no (P := Try.prog) (t := 23) 8 (by decide) (by kernel_rfl) (by kernel_rfl) (by kernel_rfl) (by kernel_rfl) (K5.flat h) (K5.flat h') (fun e => hn (K5.vals_inj (aggV_inj e))) w

theorem kind_any (n : Int) (w : World) : Calls Try.prog 10 #[.int .i64 n] w fun r w' => r = .returned (.tuple #[.int .i64 (if 1 ≤ n ∧ n ≤ 4 then n else 0), .bool (decide (1 ≤ n ∧ n ≤ 4))]) ∧ w' = w := by
  by_cases h : 1 ≤ n ∧ n ≤ 4
  · rw [if_pos h, decide_eq_true h]
    obtain rfl | rfl | rfl | rfl : n = 1 ∨ n = 2 ∨ n = 3 ∨ n = 4 := by omega
    all_goals
      go_enter Try.func10, Try.ntmps10
      go_wp2
      go_ret2
      exact ⟨rfl, rfl⟩
  · rw [if_neg h, decide_eq_false h]
    have e1 : (n == 1) = false := by simp; omega
    have e2 : (n == 2) = false := by simp; omega
    have e3 : (n == 3) = false := by simp; omega
    have e4 : (n == 4) = false := by simp; omega
    clear h
    go_enter Try.func10, Try.ntmps10
    go_wp2
    go_ret2
    exact ⟨rfl, rfl⟩

set_option maxHeartbeats 1000000 in
theorem errors_any (k : K5) (w : World) (hk : k.Fits) : Calls Try.prog 12 #[.agg (aggV k.vals)] w fun r w' => r = .returned (.int .u64 k.errs) ∧ Below w.heap.size w w' := by
  obtain ⟨g, hg⟩ : ∃ g, w.heap.size = g := ⟨_, rfl⟩
  have hE : k.errs = sumS [k.c1, k.c2, k.c3] := rfl
  have HE := Lib.hid hE
  generalize k.errs = e at *
  have HG := Lib.hid hg
  clear hE
  go_enter Try.func12, Try.ntmps12
  go_wp2_with (refine wpList_box_agg rfl 23 _ rfl g hg k.vals rfl ?_; intro w1 h1 b1 s1; obtain ⟨p0, p1, p2, p3, p4⟩ := cells5 h1; clear h1)
  have hr : Row .u64 (w1.alloc (.cells #[.int .u64 k.c1, .int .u64 k.c2, .int .u64 k.c3] 22)) (some ⟨w1.heap.size, 0, none⟩) 3 [k.c1, k.c2, k.c3] := by
    refine ⟨Nat.le_refl _, by decide, .inr ⟨_, _, rfl, fun j hj => ?_⟩, ?_⟩
    · rw [cell_of (heap_alloc_at w1 _), Nat.zero_add]
      have hj' : j < 3 := hj
      rcases (show j = 0 ∨ j = 1 ∨ j = 2 by omega) with rfl | rfl | rfl <;> rfl
    · intro n hn
      simp only [List.mem_cons, List.not_mem_nil, or_false] at hn
      have f1 := hk.f1; have f2 := hk.f2; have f3 := hk.f3
      rcases hn with rfl | rfl | rfl
      all_goals exact WalkArith.wf_u64 (by omega)
  have hs := sum_any _ 3 3 _ _ hr
  rw [s1] at hs
  refine hs.mono ?_
  clear hs hr
  rintro r w2 ⟨rfl, rfl⟩
  go_wp2
  go_ret
  refine ⟨by rw [HE.out]; rfl, ?_⟩
  rw [HG.out]
  exact b1.trans ((below_alloc w1 _).mono (by omega))

set_option maxHeartbeats 1000000 in
theorem volume_any (k : K5) (w : World) (hk : k.Fits) : Calls Try.prog 14 #[.agg (aggV k.vals)] w fun r w' => r = .returned (.int .u64 k.vol) ∧ Below w.heap.size w w' := by
  obtain ⟨g, hg⟩ : ∃ g, w.heap.size = g := ⟨_, rfl⟩
  have hv : k.vol = addS k.c0 k.errs := rfl
  have hek : ∀ v, Calls Try.prog 12 #[.agg #[.int .u64 k.c0, .int .u64 k.c1, .int .u64 k.c2, .int .u64 k.c3, .int .u64 k.c4]] v fun r w' => r = .returned (.int .u64 k.errs) ∧ Below v.heap.size v w' := fun v => errors_any k v hk
  have heb := hk.errs
  have h0b := hk.f0
  have HS := Lib.hid (cells5 (w := w) (g := g) (k := k) (ty := 23))
  have hb : Hid (∀ w1 w2 : World, Below g w w1 → w1.heap[g]? = some (vobj 23 k.vals) → Below w1.heap.size w1 w2 → w2.cell? ⟨g, 0, none⟩ = some (.int .u64 k.c0) ∧ w2.cell? ⟨g, 1, none⟩ = some (.int .u64 k.c1) ∧ w2.cell? ⟨g, 2, none⟩ = some (.int .u64 k.c2) ∧ w2.cell? ⟨g, 3, none⟩ = some (.int .u64 k.c3) ∧ w2.cell? ⟨g, 4, none⟩ = some (.int .u64 k.c4)) :=
    Lib.hid (fun w1 w2 _ h1 h2 => cells5 (kb_below h1 h2))
  generalize k.vol = vo at *
  generalize k.errs = e at *
  generalize hc0 : k.c0 = x0 at *
  generalize k.c1 = x1 at *
  generalize k.c2 = x2 at *
  generalize k.c3 = x3 at *
  generalize k.c4 = x4 at *
  have HV := Lib.hid hv
  have HG := Lib.hid hg
  have HE := Lib.hid hek
  clear hv hc0 hek HS
  go_enter Try.func14, Try.ntmps14
  go_wp2_with (refine wpList_box_agg rfl 23 _ rfl g hg k.vals rfl ?_; intro w1 h1 b1 s1)
  obtain ⟨p0, p1, p2, p3, p4⟩ := hb.out w1 w1 b1 h1 (Below.refl _ _)
  obtain ⟨q0, q1, q2, q3, q4⟩ := hb.out w1 w1.drew b1 h1 (ali_below (drew_ali _))
  have HK : Hid (∀ w2 : World, Below w1.heap.size w1 w2 → w2.cell? ⟨g, 0, none⟩ = some (.int .u64 x0) ∧ w2.cell? ⟨g, 1, none⟩ = some (.int .u64 x1) ∧ w2.cell? ⟨g, 2, none⟩ = some (.int .u64 x2) ∧ w2.cell? ⟨g, 3, none⟩ = some (.int .u64 x3) ∧ w2.cell? ⟨g, 4, none⟩ = some (.int .u64 x4)) := Lib.hid (fun w2 hw2 => hb.out w1 w2 b1 h1 hw2)
  have B1 := Lib.hid b1
  have S1 := Lib.hid s1
  have D0 : Hid (Below w1.heap.size w1 w1.drew) := Lib.hid (ali_below (drew_ali _))
  clear b1 h1 s1 hb
  go_region_held3 (fun wx => wx.cell? ⟨g, 0, none⟩ = some (.int .u64 x0) ∧ wx.cell? ⟨g, 1, none⟩ = some (.int .u64 x1) ∧ wx.cell? ⟨g, 2, none⟩ = some (.int .u64 x2) ∧ wx.cell? ⟨g, 3, none⟩ = some (.int .u64 x3) ∧ wx.cell? ⟨g, 4, none⟩ = some (.int .u64 x4))
    (first
      | with_reducible exact HK.out _ D0.out
      | with_reducible exact HK.out _ t2
      | exact HK.out _ (t2.trans ((below_alloc _ _).mono t2.size)))
    (first
      | (go_at_call 25; refine (sum_two _ 0 2 x0 e _ h0b.1 heb.1 h0b.2 heb.2 (by rw [cell_of (heap_alloc_at _ _)]; rfl) (by rw [cell_of (heap_alloc_at _ _)]; rfl)).mono ?_; rintro r w3 ⟨rfl, rfl⟩)
      | (go_at_call 12; refine (HE.out _).mono ?_; rintro r w2 ⟨rfl, b2⟩; have t2 := D0.out.trans (b2.mono D0.out.size); clear b2))
  go_wp2
  go_ret
  refine ⟨by rw [HV.out]; rfl, ?_⟩
  rw [HG.out]
  exact B1.out.trans ((t2.trans ((below_alloc _ _).mono t2.size)).mono (by rw [S1.out]; omega))

set_option maxHeartbeats 1000000 in
theorem calls_any (k : K5) (w : World) : Calls Try.prog 27 #[.agg (aggV k.vals)] w fun r w' => r = .returned (.agg (aggV k.bare.vals)) ∧ Below w.heap.size w w' := by
  obtain ⟨g, hg⟩ : ∃ g, w.heap.size = g := ⟨_, rfl⟩
  have HG := Lib.hid hg
  have HX : Hid (k.vals.set 4 (.int .u64 0) = k.bare.vals) := Lib.hid rfl
  have HL : Hid (K5.zero.vals.length = k.bare.vals.length) := Lib.hid rfl
  have HS := Lib.hid (sizeK5 k.bare)
  have HO := Lib.hid k.bare.ones
  have H4 : Hid (4 < k.vals.length) := Lib.hid (by show 4 < 5; omega)
  generalize k.vals = kv at *
  have hb := @loadK5
  generalize hkb : k.bare.vals = kb at *
  go_enter Try.func27, Try.ntmps27
  go_wp2_with (first
    | (refine wpList_box_agg rfl 23 _ rfl g hg kv rfl ?_; intro w1 h1 b1 s1)
    | (refine wpList_alloc_agg rfl 23 rfl (g + 1) s1 K5.zero.vals (allocK _) ?_; intro w2 h2 b2 s2; have h1' := kb_below h1 (b2.mono (by omega)))
    | (refine wpList_store_one rfl 22 _ _ rfl g 4 23 kv (.int .u64 0) rfl rfl h1' H4.out (by kernel_rfl) rfl rfl ?_; intro w3 h3 f3 s3; rw [HX.out] at h3; have h2' := (f3.block (g + 1) (by omega) (by omega)).trans h2)
    | (refine wpList_load_agg rfl 23 _ rfl g rfl kb h3 _ undK rfl HS.out ?_)
    | (refine wpList_store_agg rfl 23 _ _ rfl (g + 1) K5.zero.vals kb rfl rfl h2' HL.out HS.out HO.out ?_; intro w4 h4 f4 s4))
  subst hkb
  refine bodyPost_ret (v := .agg (aggV k.bare.vals)) (results_agg Try.results27 rfl (loadK5 h4)) rfl ⟨rfl, ?_⟩
  rw [HG.out]
  exact ((b1.trans (b2.mono (by omega))).trans (f3.below (by omega) (fun j hj e => by omega))).trans (f4.below (by omega) (fun j hj e => by omega))

set_option maxHeartbeats 1000000 in
theorem opens_any (k : K5) (f : Cnf) (w : World) (hk : k.Fits) (hf : f.Fits) : Calls Try.prog 16 #[.agg (aggV k.vals), .agg (aggV f.vals)] w fun r w' => r = .returned (.bool (k.opens f.volume f.percent)) ∧ Below w.heap.size w w' := by
  obtain ⟨g, hg⟩ : ∃ g, w.heap.size = g := ⟨_, rfl⟩
  have HG := Lib.hid hg
  obtain ⟨V, hV⟩ : ∃ V, f.volume = V := ⟨_, rfl⟩
  obtain ⟨p, hp⟩ : ∃ p, f.percent = p := ⟨_, rfl⟩
  obtain ⟨ans, hans⟩ : ∃ ans, k.opens f.volume f.percent = ans := ⟨_, rfl⟩
  rw [hans]
  have hVb := hf.volume
  have hpb := hf.percent
  rw [hV] at hVb
  rw [hp] at hpb
  obtain ⟨mx, hmx⟩ : ∃ mx, (if V < 0 then 0 else V) = mx := ⟨_, rfl⟩
  have hmb : 0 ≤ mx ∧ mx ≤ 9223372036854775807 := by rw [← hmx]; split <;> omega
  have hwm : IntKind.u64.wrap mx = mx := by rw [IntKind.wrap_u64]; omega
  have HCC := Lib.hid (fun v => calls_any k v)
  have HVV := Lib.hid (fun v => volume_any k v hk)
  have HEE := Lib.hid (fun v => errors_any k v hk)
  have HLK : Hid (∀ (v : World) (ty : TypeId) (g : Nat), v.heap[g]? = some (vobj ty f.vals) → v.cell? ⟨g, 8, none⟩ = some (.int .i64 V) ∧ v.cell? ⟨g, 9, none⟩ = some (.int .i64 p)) := Lib.hid (fun v ty g h => ⟨by rw [← hV]; exact vobj_cell h rfl, by rw [← hp]; exact vobj_cell h rfl⟩)
  have HSK := Lib.hid (sizeK5 k)
  have HSZ := Lib.hid (sizeK5 K5.zero)
  have HAK := Lib.hid allocK
  have hvb := hk.vol
  have heb := hk.errs
  by_cases hz : k.bare = K5.zero
  · have he : ∀ w, (Op.equalIn 10000 23 (.agg (aggV k.bare.vals)) (.agg (aggV K5.zero.vals))).run Try.prog w = .ok true w := by rw [hz]; exact eq5_yes K5.zero_fits
    have h0 := (K5.vol_none hk).1 hz
    have ha : ans = false := by
      rw [← hans]; unfold K5.opens; rw [h0]
      simp only [Bool.and_eq_false_imp, decide_eq_true_eq]
      intro h; split at h <;> omega
    subst ha
    clear hz hans h0 hmx hmb hwm
    generalize k.vals = kv at *
    generalize k.bare.vals = bv at *
    generalize K5.zero.vals = zv at *
    generalize f.vals = fv at *
    go_enter Try.func16, Try.ntmps16
    go_wp2_with (first
      | (refine wpList_box_agg rfl 23 _ rfl g hg kv rfl ?_; intro w1 h1 b1 s1)
      | (refine wpList_box_agg rfl 25 _ rfl (g + 1) s1 fv rfl ?_; intro w2 h2 b2 s2; have h1' := kb_below h1 (b2.mono (by omega)))
      | (refine wpList_alloc_agg rfl 23 rfl (g + 2) s2 zv (HAK.out _) ?_; intro w3 h3 b3 s3))
    have k1 := kb_below h1' (b3.mono (by omega))
    have k2 := kb_below h2 (b3.mono (by omega))
    have B3 := Lib.hid ((b1.trans (b2.mono (by omega : g ≤ g + 1))).trans (b3.mono (by omega : g ≤ g + 2)))
    clear h1 h2 h1' b1 b2 b3 s1 s2
    have ld : ∀ p : Later w3, (Instr.loadAt 23 (.pointer (some ⟨g, 0, none⟩))).run Try.prog p.v = .ok (.agg (aggV kv)) p.v := fun p => run_loadAt_agg _ _ _ _ _ (p.heap k1) undK rfl HSK.out
    have lz : ∀ p : Later w3, (Instr.loadAt 23 (.pointer (some ⟨g + 2, 0, none⟩))).run Try.prog p.v = .ok (.agg (aggV zv)) p.v := fun p => run_loadAt_agg _ _ _ _ _ (p.heap h3) undK rfl HSZ.out
    refine wp_region_later (by kernel_rfl) (by kernel_rfl) ?_
    repeat (first
      | (refine wpQuiet_load rfl 23 _ rfl g rfl (.agg (aggV kv)) ld ?_; simp only [Act.put, List.setIfInBounds_toArray, List.set_cons_zero, List.set_cons_succ])
      | (refine wpQuiet_load rfl 23 _ rfl (g + 2) rfl (.agg (aggV zv)) lz ?_; simp only [Act.put, List.setIfInBounds_toArray, List.set_cons_zero, List.set_cons_succ])
      | go_big_quiet_step (first | (go_at_call 27; with_reducible exact Calls.later_of (HCC.out _))))
    refine wpQuiet_nil ?_
    rintro w4 ⟨⟨_, b4⟩, rfl⟩
    clear ld lz
    go_wp2
    go_ret
    refine ⟨rfl, ?_⟩
    rw [HG.out]
    exact B3.out.trans (b4.mono (by omega))
  · have he : ∀ w, (Op.equalIn 10000 23 (.agg (aggV k.bare.vals)) (.agg (aggV K5.zero.vals))).run Try.prog w = .ok false w := eq5_no (K5.bare_fits hk) K5.zero_fits hz
    have h0 : k.vol ≠ 0 := fun e => hz ((K5.vol_none hk).2 e)
    have ha : ans = (decide (mx ≤ k.vol) && partB k.errs k.vol p) := by
      rw [← hans, hp]; unfold K5.opens; rw [hV]
      congr 1
      rw [decide_eq_decide, ← hmx]
      constructor
      · intro h; split at h <;> split <;> omega
      · intro h; split at h <;> split <;> omega
    have HP := Lib.hid (fun v => atLeast_any k.errs k.vol p v heb.1 hvb.1 heb.2 hvb.2 hpb.1 hpb.2)
    clear hz hans h0
    generalize partB k.errs k.vol p = pb at *
    generalize k.vol = vo at *
    generalize k.errs = er at *
    generalize k.vals = kv at *
    generalize k.bare.vals = bv at *
    generalize K5.zero.vals = zv at *
    generalize f.vals = fv at *
    have HA := Lib.hid ha
    clear ha
    go_enter Try.func16, Try.ntmps16
    go_wp2_with (first
      | (refine wpList_box_agg rfl 23 _ rfl g hg kv rfl ?_; intro w1 h1 b1 s1)
      | (refine wpList_box_agg rfl 25 _ rfl (g + 1) s1 fv rfl ?_; intro w2 h2 b2 s2; have h1' := kb_below h1 (b2.mono (by omega)))
      | (refine wpList_alloc_agg rfl 23 rfl (g + 2) s2 zv (HAK.out _) ?_; intro w3 h3 b3 s3))
    have k1 := kb_below h1' (b3.mono (by omega))
    have k2 := kb_below h2 (b3.mono (by omega))
    have B3 := Lib.hid ((b1.trans (b2.mono (by omega : g ≤ g + 1))).trans (b3.mono (by omega : g ≤ g + 2)))
    clear h1 h2 h1' b1 b2 b3 s1 s2
    have ld : ∀ p : Later w3, (Instr.loadAt 23 (.pointer (some ⟨g, 0, none⟩))).run Try.prog p.v = .ok (.agg (aggV kv)) p.v := fun p => run_loadAt_agg _ _ _ _ _ (p.heap k1) undK rfl HSK.out
    have lz : ∀ p : Later w3, (Instr.loadAt 23 (.pointer (some ⟨g + 2, 0, none⟩))).run Try.prog p.v = .ok (.agg (aggV zv)) p.v := fun p => run_loadAt_agg _ _ _ _ _ (p.heap h3) undK rfl HSZ.out
    refine wp_region_later (by kernel_rfl) (by kernel_rfl) ?_
    repeat (first
      | (refine wpQuiet_load rfl 23 _ rfl g rfl (.agg (aggV kv)) ld ?_; simp only [Act.put, List.setIfInBounds_toArray, List.set_cons_zero, List.set_cons_succ])
      | (refine wpQuiet_load rfl 23 _ rfl (g + 2) rfl (.agg (aggV zv)) lz ?_; simp only [Act.put, List.setIfInBounds_toArray, List.set_cons_zero, List.set_cons_succ])
      | go_big_quiet_step (first | (go_at_call 27; with_reducible exact Calls.later_of (HCC.out _))))
    refine wpQuiet_nil ?_
    rintro w4 ⟨⟨_, b4⟩, rfl⟩
    have j1 := kb_below k1 b4
    have j2 := kb_below k2 b4
    have B4 := Lib.hid (B3.out.trans (b4.mono (by omega : g ≤ w3.heap.size)))
    clear ld lz k1 k2 h3 b4 s3 B3 he
    go_wp2_with (refine wpList_load_agg rfl 23 _ rfl g rfl kv j1 _ undK rfl HSK.out ?_)
    refine (HVV.out _).mono ?_
    rintro r w5 ⟨rfl, b5⟩
    have i1 := kb_below j1 b5
    have i2 := kb_below j2 b5
    have B5 := Lib.hid (B4.out.trans (b5.mono (by have := B4.out.size; omega : g ≤ _)))
    clear j1 j2 b5 B4
    obtain ⟨q8, q9⟩ := HLK.out _ _ _ i2
    have ld : ∀ p : Later w5, (Instr.loadAt 23 (.pointer (some ⟨g, 0, none⟩))).run Try.prog p.v = .ok (.agg (aggV kv)) p.v := fun p => run_loadAt_agg _ _ _ _ _ (p.heap i1) undK rfl HSK.out
    have v8 := fun p : Later w5 => p.cell q8
    have v9 := fun p : Later w5 => p.cell q9
    by_cases hle : mx ≤ vo
    · have hd : decide (mx ≤ vo) = true := decide_eq_true hle
      go_wp2
      refine wp_region_later (by kernel_rfl) (by kernel_rfl) ?_
      repeat (first
        | (refine wpQuiet_load rfl 23 _ rfl g rfl (.agg (aggV kv)) ld ?_; simp only [Act.put, List.setIfInBounds_toArray, List.set_cons_zero, List.set_cons_succ])
        | go_big_quiet_step (first | (go_at_call 12; with_reducible exact Calls.later_of (HEE.out _)) | (go_at_call 28; with_reducible exact Calls.later_is (HP.out _))))
      refine wpQuiet_nil ?_
      rintro w6 ⟨⟨_, b6⟩, rfl⟩
      go_wp2
      go_ret
      refine ⟨by rw [HA.out, hd]; rfl, ?_⟩
      rw [HG.out]
      exact B5.out.trans (b6.mono (by have := B5.out.size; omega))
    · have hd : decide (mx ≤ vo) = false := decide_eq_false hle
      go_wp2
      refine wp_region_later (by kernel_rfl) (by kernel_rfl) ?_
      repeat (first
        | (refine wpQuiet_load rfl 23 _ rfl g rfl (.agg (aggV kv)) ld ?_; simp only [Act.put, List.setIfInBounds_toArray, List.set_cons_zero, List.set_cons_succ])
        | go_big_quiet_step (first | (go_at_call 12; with_reducible exact Calls.later_of (HEE.out _)) | (go_at_call 28; with_reducible exact Calls.later_is (HP.out _))))
      refine wpQuiet_nil ?_
      rintro w6 ⟨⟨_, b6⟩, rfl⟩
      go_wp2
      go_ret
      refine ⟨by rw [HA.out, hd]; rfl, ?_⟩
      rw [HG.out]
      exact B5.out.trans (b6.mono (by have := B5.out.size; omega))
end Go.Proofs.Ytfncipoiblieeaa
