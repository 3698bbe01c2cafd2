/- Layer 14: the document's Add. Written by wip/tools/gen_ref14c.py. -/
import Derived.Test.YtpfmjocpgnoepaaRef14
import Derived.Test.YtpfmjocpgnoepaaRef13b
import Derived.Test.YtpfmjocpgnoepaaRef13c
import Derived.Test.YtpfmjocpgnoepaaHand
import Derived.Deep.DeepCutAuto
namespace Go.Proofs.Ytpfmjocpgnoepaa
set_option linter.unusedVariables false
open Go.ChangeShapes Go.WideShapes Go.ChangeAt Go.RowKit

abbrev rsobj (o r : Bool) (E : Int) (A : Option Addr) (n c : Nat) (M : Option Addr) (m d : Nat) : Obj := vobj 96 (svals o r E A n c M m d)
theorem undRS : ∃ fs, Try.prog.underlying 96 = some (.struct fs) := ⟨_, Try.underlying96⟩
theorem sizeRS : (Try.prog.info? 96).map (·.size) = some 5 := by kernel_rfl
theorem loadRS {w : World} {g : Nat} {vs : List Value} (h : w.heap[g]? = some (vobj 96 vs)) (hl : vs.length = 5) : (loadVar 96 ⟨g, 0, none⟩).run Try.prog w = .ok (.agg (aggV vs)) w := by
  obtain ⟨fs, hu⟩ := undRS
  exact run_load_agg w _ g vs _ h hu rfl (by rw [hl]; exact sizeRS)
/-- A row's block is none of some. -/
def Off (F : Nat → Prop) (A : Option Addr) (n : Nat) : Prop := ∀ b off, A = some ⟨b, off, none⟩ → 0 < n → ¬ F b
/-- A row's block is none of the four from w0 on, and none of some. -/
def Apt (F : Nat → Prop) (w0 : Nat) (A : Option Addr) (n : Nat) : Prop := ∀ b off, A = some ⟨b, off, none⟩ → 0 < n → (b < w0 ∨ w0 + 4 ≤ b) ∧ ¬ F b
theorem Apt.off {F : Nat → Prop} {w0 n : Nat} {A : Option Addr} (h : Apt F w0 A n) : Off F A n := fun b off e hn => (h b off e hn).2
theorem Fresh.apt {F : Nat → Prop} {w0 B : Nat} {A : Option Addr} (h : Fresh B A) (hF : ∀ j, F j → j < w0) (hB : w0 + 4 ≤ B) (n : Nat) : Apt F w0 A n := fun b off e _ => ⟨.inr (Nat.le_trans hB (h b off e)), fun hf => by have := hF b hf; have := h b off e; omega⟩
theorem Bat.apt {F : Nat → Prop} {w : World} {A M : Option Addr} {n c m d : Nat} {zs : List Int} {ms : List P2} (h : Bat w A n c M m d zs ms) (hA : Off F A n) (hM : Off F M m) : Apt F w.heap.size A n ∧ Apt F w.heap.size M m :=
  ⟨fun b off e hn => ⟨.inl (h.ar.lt e hn), hA b off e hn⟩, fun b off e hn => ⟨.inl (h.mr.lt e hn), hM b off e hn⟩⟩
theorem Bat.off {F : Nat → Prop} {w w' : World} {A M : Option Addr} {n c m d w0 g : Nat} {zs : List Int} {ms : List P2} (h : Bat w A n c M m d zs ms) (hA : Apt F w0 A n) (hM : Apt F w0 M m) (hf : Frm (· = g) w w') (hg : w0 ≤ g ∧ g < w0 + 4) : Bat w' A n c M m d zs ms :=
  ⟨h.ar.apart hf (fun b off e hn hb => by have := (hA b off e hn).1; omega), h.mr.apart hf (fun b off e hn hb => by have := (hM b off e hn).1; omega), h.nc, h.md, h.fits⟩
def CO.endOf (S : CO) (E now : Int) : Int := if S.opn then E else addS now S.win
/-- As far as the document's Add is when it asks whether the batch is full. -/
structure RCame (F : Nat → Prop) (w wc : World) (g : Nat) (S : CO) (now id x E : Int) (A : Option Addr) (n c : Nat) (M : Option Addr) (m d : Nat) : Prop where
  k0 : wc.heap[g]? = some (rcobj S.win S.most true (S.endOf E now) A n c M m d)
  k1 : wc.heap[g + 1]? = some (rcobj 0 0 false 0 none 0 0 none 0 0)
  k2 : wc.heap[g + 1 + 1]? = some (rsobj false false 0 none 0 0 none 0 0)
  k3 : wc.heap[g + 1 + 1 + 1]? = some (rsobj (!S.opn) false (S.step now id x).due none 0 0 none 0 0)
  bat : Bat wc A n c M m d (S.zs1 x) (S.ms1 id x)
  ap : Apt F g A n ∧ Apt F g M m
  low : Below w.heap.size w wc

/-- As it is at its end. -/
structure RDone (F : Nat → Prop) (w wc : World) (g : Nat) (S : CO) (now id x E1 : Int) (A : Option Addr) (n c : Nat) (M : Option Addr) (m d : Nat) (A3 : Option Addr) (n3 c3 : Nat) (M3 : Option Addr) (m3 d3 : Nat) : Prop where
  k0 : wc.heap[g]? = some (rcobj S.win S.most (!S.full1 x) E1 A n c M m d)
  k1 : wc.heap[g + 1]? = some (rcobj 0 0 false 0 none 0 0 none 0 0)
  k2 : wc.heap[g + 1 + 1]? = some (rsobj false false 0 none 0 0 none 0 0)
  k3 : wc.heap[g + 1 + 1 + 1]? = some (rsobj (!S.opn) (S.full1 x) (S.step now id x).due A3 n3 c3 M3 m3 d3)
  bat : Bat wc A n c M m d (S.next now id x).zs (S.next now id x).ms
  bat3 : Bat wc A3 n3 c3 M3 m3 d3 (S.step now id x).zs (S.step now id x).ms
  ap : Apt F g A n ∧ Apt F g M m
  ap3 : Apt F g A3 n3 ∧ Apt F g M3 m3
  low : Below w.heap.size w wc
theorem Apt.none (F : Nat → Prop) (w0 n : Nat) : Apt F w0 none n := fun _ _ e => by cases e

set_option maxRecDepth 100000 in
set_option maxHeartbeats 4000000 in
theorem rcadd_any (F : Nat → Prop) (S : CO) (E : Int) (A : Option Addr) (n c : Nat) (M : Option Addr) (m d : Nat) (now id x : Int) (w : World) (hb : Bat w A n c M m d S.zs S.ms) (hF : ∀ j, F j → j < w.heap.size) (hfA : Off F A n) (hfM : Off F M m) (hid : wf64 id) (hn : n ≤ 1000) (hm : m ≤ 1000) (hw0 : 0 ≤ S.win) (hw1 : S.win ≤ 18446744073709551615) (ht0 : 0 ≤ now) (ht1 : now ≤ 18446744073709551615) :
    Calls Try.prog 47 #[rcV S.win S.most S.opn E A n c M m d, .int .u64 now, .int .i64 id, .int .i64 x] w fun r w' => ∃ A' n' c' M' m' d' A2 n2 c2 M2 m2 d2, r = .returned (.tuple #[rcV S.win S.most (!S.full1 x) (S.endOf E now) A' n' c' M' m' d', .agg #[.bool (!S.opn), .bool (S.full1 x), .int .u64 (S.step now id x).due, .slice A2 n2 c2, .slice M2 m2 d2]]) ∧ Bat w' A' n' c' M' m' d' (S.next now id x).zs (S.next now id x).ms ∧ Bat w' A2 n2 c2 M2 m2 d2 (S.step now id x).zs (S.step now id x).ms ∧ ((Off F A' n' ∧ Off F M' m') ∧ (Off F A2 n2 ∧ Off F M2 m2)) ∧ Below w.heap.size w w' := by
  obtain ⟨X3, hX3, bX3, k0, k1, k2, sX3⟩ := three_new w (rcobj S.win S.most S.opn E A n c M m d) (rcobj 0 0 false 0 none 0 0 none 0 0) (rsobj false false 0 none 0 0 none 0 0)
  obtain ⟨X, hX⟩ : ∃ X, X3.alloc (rsobj false false 0 none 0 0 none 0 0) = X := ⟨_, rfl⟩
  have HX : Hid ((((w.alloc (.cells #[.int .u64 S.win, .int .i64 S.most, .bool S.opn, .int .u64 E, .slice A n c, .slice M m d] 86)).alloc (.cells #[.int .u64 0, .int .i64 0, .bool false, .int .u64 0, .slice none 0 0, .slice none 0 0] 86)).alloc (.cells #[.bool false, .bool false, .int .u64 0, .slice none 0 0, .slice none 0 0] 96)).alloc (.cells #[.bool false, .bool false, .int .u64 0, .slice none 0 0, .slice none 0 0] 96) = X) := Lib.hid (by rw [← hX, ← hX3]; rfl)
  have K0 : Hid (X.heap[w.heap.size]? = some (rcobj S.win S.most S.opn E A n c M m d)) := Lib.hid (by rw [← hX]; exact kb_alloc k0 _)
  have K1 : Hid (X.heap[w.heap.size + 1]? = some (rcobj 0 0 false 0 none 0 0 none 0 0)) := Lib.hid (by rw [← hX]; exact kb_alloc k1 _)
  have K2 : Hid (X.heap[w.heap.size + 1 + 1]? = some (rsobj false false 0 none 0 0 none 0 0)) := Lib.hid (by rw [← hX]; exact kb_alloc k2 _)
  have K3 : Hid (X.heap[w.heap.size + 1 + 1 + 1]? = some (rsobj false false 0 none 0 0 none 0 0)) := Lib.hid (by rw [← hX, show w.heap.size + 1 + 1 + 1 = X3.heap.size from sX3.symm]; exact heap_alloc_at X3 _)
  have BX : Hid (Below w.heap.size w X) := Lib.hid (by rw [← hX]; exact bX3.alloc bX3.size _)
  have SX : Hid (X.heap.size = w.heap.size + 4) := Lib.hid (by rw [← hX]; simp [sX3])
  have HB := Lib.hid (hb.below BX.out)
  have AP := Lib.hid (hb.apt hfA hfM)
  have q2 : X.cell? ⟨w.heap.size, 2, none⟩ = some (.bool S.opn) := vobj_cell K0.out rfl
  clear hX hX3 bX3 k0 k1 k2 sX3 hb hfA hfM
  go_enter Try.func47, Try.ntmps47
  go_upto_region 2 with fail
  rw [HX.out]
  go_upto_if 16 with fail
  clear HX
  go_cut [0] (fun v0 wc => ∃ A1 n1 c1 M1 m1 d1, RCame F w wc w.heap.size S now id x E A1 n1 c1 M1 m1 d1)
  case first =>
    cases hop : S.opn with
    | false =>
      have K0' : Hid (X.heap[w.heap.size]? = some (rcobj S.win S.most false E A n c M m d)) := Lib.hid (by have := K0.out; rwa [hop] at this)
      have HOP := Lib.hid hop
      clear q2 K0 hop
      go_wp2_with (first
        | (refine wpList_store_one rfl 4 _ _ rfl w.heap.size 2 86 (rvals S.win S.most false E A n c M m d) (.bool true) rfl rfl ?hz (by show 2 < 6; decide) size1b rfl rfl ?_; (case hz => exact K0'.out); intro w5 k5 f5 _; have K5 : Hid (w5.heap[w.heap.size]? = some (rcobj S.win S.most true E A n c M m d)) := Lib.hid k5; have F5 := Lib.hid f5; have p0 : w5.cell? ⟨w.heap.size, 0, none⟩ = some (.int .u64 S.win) := vobj_cell k5 rfl; clear k5 f5 K0')
        | (go_at_call 45; refine (radd_any now S.win w5 ht0 hw0 ht1 hw1).mono ?_; rintro r wz ⟨rfl, hz⟩; rw [← hz]; clear hz wz p0)
        | (refine wpList_store_one rfl 26 _ _ rfl w.heap.size 3 86 (rvals S.win S.most true E A n c M m d) (.int .u64 (addS now S.win)) rfl rfl ?hz (by show 3 < 6; decide) size1u rfl rfl ?_; (case hz => exact K5.out); intro w6 k6 f6 _; have K6 : Hid (w6.heap[w.heap.size]? = some (rcobj S.win S.most true (addS now S.win) A n c M m d)) := Lib.hid k6; have F6 := Lib.hid (F5.out.trans f6 (fun _ _ e => e)); clear k6 f6 K5)
        | (go_at_call 41; refine (rone_any id x hid w6).mono ?_; rintro r w7 ⟨A1, c1, M1, d1, rfl, b7, ⟨fa7, fm7⟩, l7⟩; have B7 := Lib.hid b7; have FA := Lib.hid fa7; have FM := Lib.hid fm7; have K7 := Lib.hid (kb_below K6.out l7); have F7 := Lib.hid (F6.out.then_below l7); clear b7 fa7 fm7 l7 K6)
        | (refine wpList_store_part rfl 25 _ _ rfl w.heap.size 4 86 (rvals S.win S.most true (addS now S.win) A n c M m d) [.slice A1 1 c1, .slice M1 1 d1] rfl rfl ?hz (by show 4 + 2 ≤ 6; decide) sizeR (onesB _ _ _ _ _ _) ?_; (case hz => exact K7.out); intro w8 k8 f8 _; have K8 : Hid (w8.heap[w.heap.size]? = some (rcobj S.win S.most true (addS now S.win) A1 1 c1 M1 1 d1)) := Lib.hid k8; have F8 := Lib.hid f8; have G8 := Lib.hid (F7.out.trans f8 (fun _ _ e => e)); have J3 := Lib.hid (carry (F7.out.trans f8 (fun _ _ e => e)) K3.out (by omega)); clear k8 f8 K7)
        | (refine wpList_store_one rfl 4 _ _ rfl (w.heap.size + 1 + 1 + 1) 0 96 (svals false false 0 none 0 0 none 0 0) (.bool true) rfl rfl ?hz (by show 0 < 5; decide) size1b rfl rfl ?_; (case hz => exact J3.out); intro w9 k9 f9 _; have K9 : Hid (w9.heap[w.heap.size + 1 + 1 + 1]? = some (rsobj true false 0 none 0 0 none 0 0)) := Lib.hid k9; have F9 := Lib.hid f9; have J0 := Lib.hid (carry f9 K8.out (by omega)); have p3 : w9.cell? ⟨w.heap.size, 3, none⟩ = some (.int .u64 (addS now S.win)) := vobj_cell J0.out rfl; clear k9 f9 J3 K8)
        | (refine wpList_store_one rfl 26 _ _ rfl (w.heap.size + 1 + 1 + 1) 2 96 (svals true false 0 none 0 0 none 0 0) (.int .u64 (addS now S.win)) rfl rfl ?hz (by show 2 < 5; decide) size1u rfl rfl ?_; (case hz => exact K9.out); intro wt kt ft _; have Kt : Hid (wt.heap[w.heap.size + 1 + 1 + 1]? = some (rsobj true false (addS now S.win) none 0 0 none 0 0)) := Lib.hid kt; have Ft := Lib.hid ft; clear kt ft p3 K9))
      go_meet
      have e1 : S.zs1 x = [x] := by simp [CO.zs1, HOP.out]
      have e2 : S.ms1 id x = [⟨id, 0⟩] := by simp [CO.ms1, HOP.out]
      have e3 : (S.step now id x).due = addS now S.win := by simp [CO.step, HOP.out]
      have hs := SX.out
      have hsz : w.heap.size + 4 ≤ w6.heap.size := by have := F6.out.size; omega
      have a1 := FA.out.apt hF hsz 1
      have m1 := FM.out.apt hF hsz 1
      refine ⟨A1, 1, c1, M1, 1, d1, ?_, ?_, ?_, ?_, ?_, ⟨a1, m1⟩, ?_⟩
      · rw [show S.endOf E now = addS now S.win by unfold CO.endOf; rw [HOP.out]; rfl]; exact carry Ft.out J0.out (by omega)
      · exact carry Ft.out (carry F9.out (carry G8.out K1.out (by omega)) (by omega)) (by omega)
      · exact carry Ft.out (carry F9.out (carry G8.out K2.out (by omega)) (by omega)) (by omega)
      · rw [HOP.out, e3]; exact Kt.out
      · rw [e1, e2]; exact ((B7.out.off a1 m1 F8.out (by omega)).off a1 m1 F9.out (by omega)).off a1 m1 Ft.out (by omega)
      · have h8 : Below w.heap.size w w8 := BX.out.trans (G8.out.below BX.out.size (fun j hj e => by omega))
        have h9 := h8.trans (F9.out.below h8.size (fun j hj e => by omega))
        exact h9.trans (Ft.out.below h9.size (fun j hj e => by omega))
    | true =>
      have K0' : Hid (X.heap[w.heap.size]? = some (rcobj S.win S.most true E A n c M m d)) := Lib.hid (by have := K0.out; rwa [hop] at this)
      have HOP := Lib.hid hop
      have p1 : X.cell? ⟨w.heap.size, 1, none⟩ = some (.int .i64 S.most) := vobj_cell K0'.out rfl
      have p4 : X.cell? ⟨w.heap.size, 4, none⟩ = some (.slice A n c) := vobj_cell K0'.out rfl
      have p5 : X.cell? ⟨w.heap.size, 5, none⟩ = some (.slice M m d) := vobj_cell K0'.out rfl
      clear q2 K0 hop
      go_wp2_with fail
      refine (bradd_fr A n c M m d S.zs S.ms id x S.most X HB.out hid hn hm).mono ?_
      rintro r w5 ⟨A5, n5, c5, M5, m5, d5, rfl, b5, hor, l5⟩
      have B6 := Lib.hid (b5.below (below_alloc w5 (bobj 25 A5 n5 c5 M5 m5 d5)))
      have L6 := Lib.hid (l5.trans ((below_alloc w5 (bobj 25 A5 n5 c5 M5 m5 d5)).mono l5.size))
      have HO := Lib.hid hor
      have K6 := Lib.hid (kb_below K0'.out L6.out)
      obtain ⟨y0, y1⟩ := bobj_cells (heap_alloc_at w5 (bobj 25 A5 n5 c5 M5 m5 d5))
      clear p1 p4 p5 b5 hor l5 K0'
      go_upto_region 9 with fail
      generalize w5.alloc (bobj 25 A5 n5 c5 M5 m5 d5) = w6 at *
      go_wp2_with (first
        | (refine wpList_store_part rfl 25 _ _ rfl w.heap.size 4 86 (rvals S.win S.most true E A n c M m d) [.slice A5 n5 c5, .slice M5 m5 d5] rfl rfl ?hz (by show 4 + 2 ≤ 6; decide) sizeR (onesB _ _ _ _ _ _) ?_; (case hz => exact K6.out); intro w8 k8 f8 _; have K8 : Hid (w8.heap[w.heap.size]? = some (rcobj S.win S.most true E A5 n5 c5 M5 m5 d5)) := Lib.hid k8; have F8 := Lib.hid f8; clear k8 f8 K6 y0 y1))
      go_meet
      have e1 : S.zs1 x = addA S.zs x S.most := by simp [CO.zs1, HOP.out]
      have e2 : S.ms1 id x = addM S.zs S.ms id x S.most := by simp [CO.ms1, HOP.out]
      have e3 : (S.step now id x).due = 0 := by simp [CO.step, HOP.out]
      have hs := SX.out
      have ha : Apt F w.heap.size A5 n5 ∧ Apt F w.heap.size M5 m5 := by
        rcases HO.out with ⟨h1, h2⟩ | ⟨h1, h2, h3, h4⟩
        · exact ⟨h1.apt hF (by omega) _, h2.apt hF (by omega) _⟩
        · subst h1 h2 h3 h4; exact AP.out
      refine ⟨A5, n5, c5, M5, m5, d5, ?_, ?_, ?_, ?_, ?_, ha, ?_⟩
      · rw [show S.endOf E now = E by unfold CO.endOf; rw [HOP.out]; rfl]; exact K8.out
      · exact carry F8.out (kb_below K1.out L6.out) (by omega)
      · exact carry F8.out (kb_below K2.out L6.out) (by omega)
      · rw [HOP.out, e3]; exact carry F8.out (kb_below K3.out L6.out) (by omega)
      · rw [e1, e2]; exact B6.out.off ha.1 ha.2 F8.out (by omega)
      · have h6 := BX.out.trans (L6.out.mono BX.out.size)
        exact h6.trans (F8.out.below h6.size (fun j hj e => by omega))
  case rest =>
    obtain ⟨A1, n1, c1, M1, m1, d1, hc⟩ := hcut
    obtain ⟨E1, hE1⟩ : ∃ E1, (S.endOf E now) = E1 := ⟨_, rfl⟩
    have C0 : Hid (wc.heap[w.heap.size]? = some (rcobj S.win S.most true E1 A1 n1 c1 M1 m1 d1)) := Lib.hid (by rw [← hE1]; exact hc.k0)
    have C1 := Lib.hid hc.k1
    have C2 := Lib.hid hc.k2
    have C3 := Lib.hid hc.k3
    have CB := Lib.hid hc.bat
    have CA := Lib.hid hc.ap
    have CL := Lib.hid hc.low
    have NL : Hid (((S.zs1 x).length : Int) = n1) := Lib.hid (by have := hc.bat.alen; exact congrArg Int.ofNat this)
    have HE := Lib.hid hE1
    have p1 : wc.cell? ⟨w.heap.size, 1, none⟩ = some (.int .i64 S.most) := vobj_cell C0.out rfl
    have p4 : wc.cell? ⟨w.heap.size, 4, none⟩ = some (.slice A1 n1 c1) := vobj_cell C0.out rfl
    clear hc hE1 K0 K1 K2 K3 BX SX HB AP q2
    go_upto_if 49 with fail
    clear p1 p4
    go_cut [] (fun wq => ∃ A2 n2 c2 M2 m2 d2 A3 n3 c3 M3 m3 d3, RDone F w wq w.heap.size S now id x E1 A2 n2 c2 M2 m2 d2 A3 n3 c3 M3 m3 d3)
    case first =>
      by_cases hf : S.most ≤ (n1 : Int)
      · have EF := Lib.hid (show S.full1 x = true by unfold CO.full1; rw [NL.out]; exact decide_eq_true hf)
        go_wp2_with (first
          | (refine wpList_store_one rfl 4 _ _ rfl (w.heap.size + 1 + 1 + 1) 1 96 (svals (!S.opn) false (S.step now id x).due none 0 0 none 0 0) (.bool true) rfl rfl ?hz (by show 1 < 5; decide) size1b rfl rfl ?_; (case hz => exact C3.out); intro w5 k5 f5 _; have K5 : Hid (w5.heap[w.heap.size + 1 + 1 + 1]? = some (rsobj (!S.opn) true (S.step now id x).due none 0 0 none 0 0)) := Lib.hid k5; have F5 := Lib.hid f5; have J0 := Lib.hid (carry f5 C0.out (by omega)); have p4 : w5.cell? ⟨w.heap.size, 4, none⟩ = some (.slice A1 n1 c1) := vobj_cell J0.out rfl; have p5 : w5.cell? ⟨w.heap.size, 5, none⟩ = some (.slice M1 m1 d1) := vobj_cell J0.out rfl; clear k5 f5)
          | (refine wpList_store_part rfl 25 _ _ rfl (w.heap.size + 1 + 1 + 1) 3 96 (svals (!S.opn) true (S.step now id x).due none 0 0 none 0 0) [.slice A1 n1 c1, .slice M1 m1 d1] rfl rfl ?hz (by show 3 + 2 ≤ 5; decide) sizeR (onesB _ _ _ _ _ _) ?_; (case hz => exact K5.out); intro w6 k6 f6 _; have K6 : Hid (w6.heap[w.heap.size + 1 + 1 + 1]? = some (rsobj (!S.opn) true (S.step now id x).due A1 n1 c1 M1 m1 d1)) := Lib.hid k6; have F6 := Lib.hid f6; have J1 := Lib.hid (carry f6 J0.out (by omega)); clear k6 f6 p4 p5 J0 K5)
          | (refine wpList_store_one rfl 4 _ _ rfl w.heap.size 2 86 (rvals S.win S.most true E1 A1 n1 c1 M1 m1 d1) (.bool false) rfl rfl ?hz (by show 2 < 6; decide) size1b rfl rfl ?_; (case hz => exact J1.out); intro w7 k7 f7 _; have K7 : Hid (w7.heap[w.heap.size]? = some (rcobj S.win S.most false E1 A1 n1 c1 M1 m1 d1)) := Lib.hid k7; have F7 := Lib.hid f7; clear k7 f7 J1)
          | (refine wpList_store_part rfl 25 _ _ rfl w.heap.size 4 86 (rvals S.win S.most false E1 A1 n1 c1 M1 m1 d1) [.slice none 0 0, .slice none 0 0] rfl rfl ?hz (by show 4 + 2 ≤ 6; decide) sizeR (onesB _ _ _ _ _ _) ?_; (case hz => exact K7.out); intro w8 k8 f8 _; have K8 : Hid (w8.heap[w.heap.size]? = some (rcobj S.win S.most false E1 none 0 0 none 0 0)) := Lib.hid k8; have F8 := Lib.hid f8; clear k8 f8 K7))
        go_meet
        have e1 : S.next now id x = S.shut := by unfold CO.next; rw [EF.out]; rfl
        have e2 : (S.step now id x).zs = S.zs1 x := by simp [CO.step, EF.out]
        have e3 : (S.step now id x).ms = S.ms1 id x := by simp [CO.step, EF.out]
        have h5 := CL.out.trans (F5.out.below CL.out.size (fun j hj e => by omega))
        have h6 := h5.trans (F6.out.below h5.size (fun j hj e => by omega))
        have h7 := h6.trans (F7.out.below h6.size (fun j hj e => by omega))
        refine ⟨none, 0, 0, none, 0, 0, A1, n1, c1, M1, m1, d1, ?_, ?_, ?_, ?_, ?_, ?_, ⟨Apt.none _ _ _, Apt.none _ _ _⟩, CA.out, h7.trans (F8.out.below h7.size (fun j hj e => by omega))⟩
        · rw [EF.out]; exact K8.out
        · exact carry F8.out (carry F7.out (carry F6.out (carry F5.out C1.out (by omega)) (by omega)) (by omega)) (by omega)
        · exact carry F8.out (carry F7.out (carry F6.out (carry F5.out C2.out (by omega)) (by omega)) (by omega)) (by omega)
        · rw [EF.out]; exact carry F8.out (carry F7.out K6.out (by omega)) (by omega)
        · rw [e1]; exact Bat.nil _ _ _
        · rw [e2, e3]; exact (((CB.out.off CA.out.1 CA.out.2 F5.out (by omega)).off CA.out.1 CA.out.2 F6.out (by omega)).off CA.out.1 CA.out.2 F7.out (by omega)).off CA.out.1 CA.out.2 F8.out (by omega)
      · have EF := Lib.hid (show S.full1 x = false by unfold CO.full1; rw [NL.out]; exact decide_eq_false hf)
        go_wp2
        go_meet
        have e1 : S.next now id x = S.more now id x := by unfold CO.next; rw [EF.out]; rfl
        have e2 : (S.step now id x).zs = [] := by simp [CO.step, EF.out]
        have e3 : (S.step now id x).ms = [] := by simp [CO.step, EF.out]
        refine ⟨A1, n1, c1, M1, m1, d1, none, 0, 0, none, 0, 0, ?_, C1.out, C2.out, ?_, ?_, ?_, CA.out, ⟨Apt.none _ _ _, Apt.none _ _ _⟩, CL.out⟩
        · rw [EF.out]; exact C0.out
        · rw [EF.out]; exact C3.out
        · rw [e1]; exact CB.out
        · rw [e2, e3]; exact Bat.nil _ _ _
    case rest =>
      obtain ⟨A2, n2, c2, M2, m2, d2, A3, n3, c3, M3, m3, d3, hd⟩ := hcut
      have d0 : wc.drew.heap[w.heap.size]? = some (rcobj S.win S.most (!S.full1 x) E1 A2 n2 c2 M2 m2 d2) := hd.k0
      have d3' : wc.drew.heap[w.heap.size + 1 + 1 + 1]? = some (rsobj (!S.opn) (S.full1 x) (S.step now id x).due A3 n3 c3 M3 m3 d3) := hd.k3
      have D1 : Hid (wc.drew.heap[w.heap.size + 1]? = some (rcobj 0 0 false 0 none 0 0 none 0 0)) := Lib.hid hd.k1
      have D2 : Hid (wc.drew.heap[w.heap.size + 1 + 1]? = some (rsobj false false 0 none 0 0 none 0 0)) := Lib.hid hd.k2
      have DB := Lib.hid (hd.bat.below (ali_below (drew_ali wc)))
      have DB3 := Lib.hid (hd.bat3.below (ali_below (drew_ali wc)))
      have DA := Lib.hid hd.ap
      have DA3 := Lib.hid hd.ap3
      have DL := Lib.hid (hd.low.trans ((ali_below (drew_ali wc)).mono hd.low.size))
      have HS : Hid (∀ wx, Frm (fun j => j = w.heap.size + 1 ∨ j = w.heap.size + 1 + 1) wc.drew wx → wx.cell? ⟨w.heap.size, 0, none⟩ = some (.int .u64 S.win) ∧ wx.cell? ⟨w.heap.size, 1, none⟩ = some (.int .i64 S.most) ∧ wx.cell? ⟨w.heap.size, 2, none⟩ = some (.bool (!S.full1 x)) ∧ wx.cell? ⟨w.heap.size, 3, none⟩ = some (.int .u64 E1) ∧ wx.cell? ⟨w.heap.size, 4, none⟩ = some (.slice A2 n2 c2) ∧ wx.cell? ⟨w.heap.size, 5, none⟩ = some (.slice M2 m2 d2) ∧ wx.cell? ⟨w.heap.size + 1 + 1 + 1, 0, none⟩ = some (.bool (!S.opn)) ∧ wx.cell? ⟨w.heap.size + 1 + 1 + 1, 1, none⟩ = some (.bool (S.full1 x)) ∧ wx.cell? ⟨w.heap.size + 1 + 1 + 1, 2, none⟩ = some (.int .u64 (S.step now id x).due) ∧ wx.cell? ⟨w.heap.size + 1 + 1 + 1, 3, none⟩ = some (.slice A3 n3 c3) ∧ wx.cell? ⟨w.heap.size + 1 + 1 + 1, 4, none⟩ = some (.slice M3 m3 d3)) := Lib.hid (fun wx hf => by
        have a0 := (hf.block w.heap.size (heap_lt d0) (by show ¬ (w.heap.size = w.heap.size + 1 ∨ w.heap.size = w.heap.size + 1 + 1); omega)).trans d0
        have a3 := (hf.block (w.heap.size + 1 + 1 + 1) (heap_lt d3') (by show ¬ (w.heap.size + 1 + 1 + 1 = w.heap.size + 1 ∨ w.heap.size + 1 + 1 + 1 = w.heap.size + 1 + 1); omega)).trans d3'
        exact ⟨vobj_cell a0 rfl, vobj_cell a0 rfl, vobj_cell a0 rfl, vobj_cell a0 rfl, vobj_cell a0 rfl, vobj_cell a0 rfl, vobj_cell a3 rfl, vobj_cell a3 rfl, vobj_cell a3 rfl, vobj_cell a3 rfl, vobj_cell a3 rfl⟩)
      clear hd d0 d3' C0 C1 C2 C3 CB CA CL NL
      go_wp2
      refine wp_region_held_drew (S := fun wx => wx.cell? ⟨w.heap.size, 0, none⟩ = some (.int .u64 S.win) ∧ wx.cell? ⟨w.heap.size, 1, none⟩ = some (.int .i64 S.most) ∧ wx.cell? ⟨w.heap.size, 2, none⟩ = some (.bool (!S.full1 x)) ∧ wx.cell? ⟨w.heap.size, 3, none⟩ = some (.int .u64 E1) ∧ wx.cell? ⟨w.heap.size, 4, none⟩ = some (.slice A2 n2 c2) ∧ wx.cell? ⟨w.heap.size, 5, none⟩ = some (.slice M2 m2 d2) ∧ wx.cell? ⟨w.heap.size + 1 + 1 + 1, 0, none⟩ = some (.bool (!S.opn)) ∧ wx.cell? ⟨w.heap.size + 1 + 1 + 1, 1, none⟩ = some (.bool (S.full1 x)) ∧ wx.cell? ⟨w.heap.size + 1 + 1 + 1, 2, none⟩ = some (.int .u64 (S.step now id x).due) ∧ wx.cell? ⟨w.heap.size + 1 + 1 + 1, 3, none⟩ = some (.slice A3 n3 c3) ∧ wx.cell? ⟨w.heap.size + 1 + 1 + 1, 4, none⟩ = some (.slice M3 m3 d3)) (by kernel_rfl) (HS.out _ (Frm.refl _ _)) (fun hHeld => ?_)
      generalize wc.drew = wd at *
      refine wpAnyH_take (i := 0) (oi := ⟨_, _, _, _, _, _⟩) (v := ?_) rfl (by kernel_rfl) (by kernel_rfl) (by kernel_rfl) (fun _ _ _ h => h) (Or.inl ⟨by rfl, ?_⟩) (by assumption) ?_
      rotate_left
      · intro w hSw; (try dsimp only at hSw); go_simp; try (with_reducible rfl)
      try go_frame
      refine wpAnyH_take (i := 1) (oi := ⟨_, _, _, _, _, _⟩) (v := ?_) rfl (by kernel_rfl) (by kernel_rfl) (by kernel_rfl) (fun _ _ _ h => h) (Or.inl ⟨by rfl, ?_⟩) (by assumption) ?_
      rotate_left
      · intro w hSw; (try dsimp only at hSw); go_simp; try (with_reducible rfl)
      try go_frame
      refine wpAnyH_ready (rs := [2]) (by kernel_rfl) (by simp) ?_
      refine ready_cons (i := 2) (o := ⟨_, _, _, _, _, _⟩) rfl ?_ AllReadyH.nil
      intro K hK
      refine store_step rfl 86 _ _ rfl (w.heap.size + 1) 0 86 (rvals 0 0 false 0 none 0 0 none 0 0) (rvals S.win S.most (!S.full1 x) E1 A2 n2 c2 M2 m2 d2) rfl rfl D1.out (Nat.le_refl _) sizeRC (onesRC _ _ _ _ _ _ _ _ _ _) ?_
      intro w8 k8 f8 _
      have K8 : Hid (w8.heap[w.heap.size + 1]? = some (rcobj S.win S.most (!S.full1 x) E1 A2 n2 c2 M2 m2 d2)) := Lib.hid k8
      have F8 := Lib.hid f8
      have D2b := Lib.hid (carry f8 D2.out (by omega))
      refine hK.out _ _ (HS.out _ (f8.mono (F' := fun j => j = w.heap.size + 1 ∨ j = w.heap.size + 1 + 1) (fun j _ e => Or.inl e))) (fun hHeld => ?_)
      clear hK K k8 f8
      try go_frame
      refine wpAnyH_ready (rs := [3]) (by kernel_rfl) (by simp) ?_
      refine ready_cons (i := 3) (o := ⟨_, _, _, _, _, _⟩) rfl ?_ AllReadyH.nil
      intro K hK
      refine store_step rfl 96 _ _ rfl (w.heap.size + 1 + 1) 0 96 (svals false false 0 none 0 0 none 0 0) (svals (!S.opn) (S.full1 x) (S.step now id x).due A3 n3 c3 M3 m3 d3) rfl rfl D2b.out (Nat.le_refl _) sizeRS (onesS _ _ _ _ _ _ _ _ _) ?_
      intro w9 k9 f9 _
      have K9 : Hid (w9.heap[w.heap.size + 1 + 1]? = some (rsobj (!S.opn) (S.full1 x) (S.step now id x).due A3 n3 c3 M3 m3 d3)) := Lib.hid k9
      have F9 := Lib.hid f9
      refine hK.out _ _ (HS.out _ ((F8.out.mono (F' := fun j => j = w.heap.size + 1 ∨ j = w.heap.size + 1 + 1) (fun j _ e => Or.inl e)).trans (f9.mono (F' := fun j => j = w.heap.size + 1 ∨ j = w.heap.size + 1 + 1) (fun j _ e => Or.inr e)) (fun _ _ e => e))) (fun hHeld => ?_)
      clear hK K k9 f9
      try go_frame
      refine wpAnyH_done (by kernel_rfl) ?_ _
      go_wp2
      have K8' := carry F9.out K8.out (by omega)
      refine bodyPost_ret (v := .tuple #[rcV S.win S.most (!S.full1 x) E1 A2 n2 c2 M2 m2 d2, .agg #[.bool (!S.opn), .bool (S.full1 x), .int .u64 (S.step now id x).due, .slice A3 n3 c3, .slice M3 m3 d3]]) (results_aggs2 Try.results47 rfl (loadRC K8' rfl) rfl (loadRS K9.out rfl)) rfl ?_
      have h8 := DL.out.trans (F8.out.below DL.out.size (fun j hj e => by omega))
      rw [HE.out]
      exact ⟨_, _, _, _, _, _, _, _, _, _, _, _, rfl, (DB.out.off DA.out.1 DA.out.2 F8.out (by omega)).off DA.out.1 DA.out.2 F9.out (by omega), (DB3.out.off DA3.out.1 DA3.out.2 F8.out (by omega)).off DA3.out.1 DA3.out.2 F9.out (by omega), ⟨⟨DA.out.1.off, DA.out.2.off⟩, ⟨DA3.out.1.off, DA3.out.2.off⟩⟩, h8.trans (F9.out.below h8.size (fun j hj e => by omega))⟩
end Go.Proofs.Ytpfmjocpgnoepaa
