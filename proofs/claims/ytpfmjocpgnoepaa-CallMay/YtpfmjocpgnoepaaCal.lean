/- Contracts of package call: own, Begin, Run, Fail, End. Written by wip/tools/gen_cal.py. -/
import Derived.Test.YtpfmjocpgnoepaaBatAdd
namespace Go.Proofs.Ytpfmjocpgnoepaa
set_option linter.unusedVariables false
open Go.ChangeShapes Go.WideShapes Go.ChangeAt Go.RowKit

/-- How far a call is, its step, why it failed, since when it is. -/
structure CN where
  st : Int
  sp : Int
  ca : Int
  tm : Int
namespace CN
structure Fits (K : CN) : Prop where
  st : wf64 K.st
  sp : wf64 K.sp
  ca : wf64 K.ca
  tm : 0 ≤ K.tm ∧ K.tm ≤ 18446744073709551615
def new (t : Int) : CN := ⟨1, 0, 0, t⟩
def runs (K : CN) : Bool := decide (K.st = 1)
def run (K : CN) : CN := if K.st = 1 then ⟨2, K.sp, K.ca, K.tm⟩ else K
def ends (K : CN) : Bool := decide (1 ≤ K.st ∧ K.st ≤ 3)
def fin (K : CN) : CN := if 1 ≤ K.st ∧ K.st ≤ 3 then ⟨4, K.sp, K.ca, K.tm⟩ else K
def why (K : CN) (z : Int) : Int := if K.st = 3 then K.ca else z
def fails (K : CN) (c : Int) : Bool := decide ((1 ≤ K.st ∧ K.st ≤ 3) ∧ K.sp < c)
def fail (K : CN) (z c : Int) : CN := if 1 ≤ K.st ∧ K.st ≤ 3 then (if K.sp < c then ⟨3, K.sp + 1, K.why z, K.tm⟩ else ⟨4, K.sp, K.why z, K.tm⟩) else K
end CN
/-- A call by value. -/
abbrev kvals (A : Option Addr) (n c : Nat) (M : Option Addr) (m d : Nat) (K : CN) : List Value := [.slice A n c, .slice M m d, .int .i64 K.st, .int .i64 K.sp, .int .i64 K.ca, .int .u64 K.tm]
abbrev callV (A : Option Addr) (n c : Nat) (M : Option Addr) (m d : Nat) (K : CN) : Value := .agg #[.slice A n c, .slice M m d, .int .i64 K.st, .int .i64 K.sp, .int .i64 K.ca, .int .u64 K.tm]
abbrev kobj (A : Option Addr) (n c : Nat) (M : Option Addr) (m d : Nat) (K : CN) : Obj := vobj 36 (kvals A n c M m d K)
theorem undK : ∃ fs, Try.prog.underlying 36 = some (.struct fs) := ⟨_, Try.underlying36⟩
theorem sizeK : (Try.prog.info? 36).map (·.size) = some 6 := by kernel_rfl
theorem sizeKB : (Try.prog.info? 34).map (·.size) = some 2 := by kernel_rfl
theorem size1i : (Try.prog.info? 3).map (·.size) = some 1 := by kernel_rfl
theorem onesK (A M : Option Addr) (n c m d : Nat) (K : CN) : Ones (kvals A n c M m d K) := by intro v hv; simp at hv; rcases hv with rfl | rfl | rfl | rfl | rfl | rfl <;> rfl
theorem onesKB (A M : Option Addr) (n c m d : Nat) : Ones [.slice A n c, .slice M m d] := by intro v hv; simp at hv; rcases hv with rfl | rfl <;> rfl
theorem loadK {w : World} {g : Nat} {vs : List Value} (h : w.heap[g]? = some (vobj 36 vs)) (hl : vs.length = 6) : (loadVar 36 ⟨g, 0, none⟩).run Try.prog w = .ok (.agg (aggV vs)) w := by
  obtain ⟨fs, hu⟩ := undK
  exact run_load_agg w _ g vs _ h hu rfl (by rw [hl]; exact sizeK)
/-- Rows that lie behind a block stay, whatever becomes of the block. -/
theorem Bat.behind {w w' : World} {A M : Option Addr} {n c m d b : Nat} {zs : List Int} {ms : List P2} (h : Bat w A n c M m d zs ms) (hA : Fresh (b + 1) A) (hM : Fresh (b + 1) M) (hf : Frm (· = b) w w') : Bat w' A n c M m d zs ms :=
  ⟨h.ar.apart hf (fun x off e _ hx => by have := hA x off e; omega), h.mr.apart hf (fun x off e _ hx => by have := hM x off e; omega), h.nc, h.md, h.fits⟩

set_option maxRecDepth 100000 in
set_option maxHeartbeats 2000000 in
theorem kown_any (A : Option Addr) (n c : Nat) (M : Option Addr) (m d : Nat) (zs : List Int) (ms : List P2) (w : World) (h : Bat w A n c M m d zs ms) (hn : n ≤ 1000) (hm : m ≤ 1000) :
    Calls Try.prog 52 #[batV A n c M m d] w fun r w' => ∃ A' c' M' d', r = .returned (batV A' n c' M' m d') ∧ Bat w' A' n c' M' m d' zs ms ∧ (Fresh w.heap.size A' ∧ Fresh w.heap.size M') ∧ Below w.heap.size w w' := by
  have h1 : ∀ wx, Below w.heap.size w wx → Calls Try.prog 56 #[.slice A n c] wx fun r w' => ∃ A' c', r = .returned (.slice A' n c') ∧ RowR irec w' A' n zs ∧ n ≤ c' ∧ Fresh wx.heap.size A' ∧ Below wx.heap.size wx w' := fun wx hb => cloneI_any A n c zs wx (h.ar.later hb) hn
  have h2 : ∀ wx, Below w.heap.size w wx → Calls Try.prog 58 #[.slice M m d] wx fun r w' => ∃ A' c', r = .returned (.slice A' m c') ∧ RowR prec w' A' m ms ∧ m ≤ c' ∧ Fresh wx.heap.size A' ∧ Below wx.heap.size wx w' := fun wx hb => cloneM_any M m d ms wx (h.mr.later hb) hm
  have HB := Lib.hid h
  have H1 := Lib.hid h1
  have H2 := Lib.hid h2
  clear h h1 h2
  obtain ⟨V, hW, hb, k0, k1, hsz⟩ := two_new w (bobj 34 A n c M m d) (bobj 34 none 0 0 none 0 0)
  have B0' := Lib.hid hb
  have K0' := Lib.hid k0
  have K1' := Lib.hid k1
  have HW := Lib.hid hW
  clear hb k0 k1 hW hsz
  go_enter Try.func52, Try.ntmps52
  go_wp2
  rw [HW.out]
  clear HW
  have hs : ∀ wx, Below V.heap.size V wx → wx.cell? ⟨w.heap.size, 0, none⟩ = some (.slice A n c) ∧ wx.cell? ⟨w.heap.size, 1, none⟩ = some (.slice M m d) := fun wx hb => cells_later K0'.out hb
  have hst : ∀ (wx : World) (u v : Value), Below V.heap.size V wx → ((wx.setCell ⟨w.heap.size + 1, 0, none⟩ u).setCell ⟨w.heap.size + 1, 1, none⟩ v).cell? ⟨w.heap.size, 0, none⟩ = some (.slice A n c) ∧ ((wx.setCell ⟨w.heap.size + 1, 0, none⟩ u).setCell ⟨w.heap.size + 1, 1, none⟩ v).cell? ⟨w.heap.size, 1, none⟩ = some (.slice M m d) := fun wx u v hb => by
    have h0 := kb_below K0'.out hb
    exact bobj_cells (((sets_bfrm wx (w.heap.size + 1) u v).block w.heap.size (heap_lt h0) (by show ¬ (w.heap.size = w.heap.size + 1); omega)).trans h0)
  have HS := Lib.hid hs
  have HT := Lib.hid hst
  have D0 : Hid (Below V.heap.size V V.drew) := Lib.hid (ali_below (drew_ali _))
  clear hs hst
  go_region_held3 (fun wx => wx.cell? ⟨w.heap.size, 0, none⟩ = some (.slice A n c) ∧ wx.cell? ⟨w.heap.size, 1, none⟩ = some (.slice M m d))
    (first
      | with_reducible exact HS.out _ D0.out
      | with_reducible exact HS.out _ t5
      | with_reducible exact HS.out _ t4
      | (have tk := t5; exact HT.out _ _ _ tk))
    (first
      | (go_at_call 58; refine (H2.out _ (B0'.out.trans (t4.mono B0'.out.size))).mono ?_; rintro r w5 ⟨M5, d5, rfl, r5, k5, n5, b5⟩; have t5 := t4.trans (b5.mono t4.size); have N5 := Lib.hid (n5.mono (Nat.le_trans B0'.out.size t4.size)); clear n5; have R4' := Lib.hid (R4.out.later b5); have R5 := Lib.hid r5;
         have y5 := kb_below K1'.out t5; obtain ⟨y0, y1⟩ := bobj_cells y5; have yf0 := frozen_of y5 0; have yf1 := frozen_of y5 1; have Y5 := Lib.hid y5; clear r5 b5 y5)
      | (go_at_call 56; refine (H1.out _ (B0'.out.trans (D0.out.mono B0'.out.size))).mono ?_; rintro r w4 ⟨A4, c4, rfl, r4, k4, n4, b4⟩; have N4 := Lib.hid (n4.mono (Nat.le_trans B0'.out.size D0.out.size)); clear n4; have t4 := D0.out.trans (b4.mono D0.out.size); have R4 := Lib.hid r4; clear r4 b4))
  all_goals
    have h8 := sets_b Y5.out A4 M5 n c4 m d5
    have f8 := sets_bfrm w5 (w.heap.size + 1) (.slice A4 n c4) (.slice M5 m d5)
    have H8 := Lib.hid h8
    have T5 := Lib.hid t5
    have F8 := Lib.hid f8
    clear h8 f8 y0 y1 yf0 yf1 t4 t5
    generalize ((w5.setCell ⟨w.heap.size + 1, 0, none⟩ (.slice A4 n c4)).setCell ⟨w.heap.size + 1, 1, none⟩ (.slice M5 m d5)) = w8 at *
    go_wp2
    refine bodyPost_ret (v := batV A4 n c4 M5 m d5) (results_agg Try.results52 rfl (loadB H8.out)) rfl ?_
    have hb := B0'.out.size
    have hlt : w.heap.size + 1 < w5.heap.size := heap_lt Y5.out
    have B5 : Below w.heap.size w w5 := B0'.out.trans (T5.out.mono B0'.out.size)
    have B8 : Below w.heap.size w w8 := B5.trans (F8.out.below (by omega) (fun j hj e => by rw [e] at hj; omega))
    exact ⟨_, _, _, _, rfl, ⟨R4'.out.stayI F8.out Y5.out, R5.out.stayP F8.out Y5.out, k4, k5, HB.out.fits⟩, ⟨N4.out, N5.out⟩, B8⟩

set_option maxRecDepth 100000 in
set_option maxHeartbeats 2000000 in
theorem kbegin_any (A : Option Addr) (n c : Nat) (M : Option Addr) (m d : Nat) (t : Int) (zs : List Int) (ms : List P2) (w : World) (h : Bat w A n c M m d zs ms) (hn : n ≤ 1000) (hm : m ≤ 1000) :
    Calls Try.prog 22 #[batV A n c M m d, .int .u64 t] w fun r w' => ∃ A' c' M' d', r = .returned (callV A' n c' M' m d' (CN.new t)) ∧ Bat w' A' n c' M' m d' zs ms ∧ (Fresh w.heap.size A' ∧ Fresh w.heap.size M') ∧ Below w.heap.size w w' := by
  obtain ⟨W, hW, hb, k0, k1, hsz⟩ := two_new w (bobj 34 A n c M m d) (kobj none 0 0 none 0 0 ⟨0, 0, 0, 0⟩)
  have HO := Lib.hid (kown_any A n c M m d zs ms W (h.below hb) hn hm)
  have HW : Hid ((w.alloc (.cells #[.slice A n c, .slice M m d] 34)).alloc (.cells #[.slice none 0 0, .slice none 0 0, .int .i64 0, .int .i64 0, .int .i64 0, .int .u64 0] 36) = W) := Lib.hid hW
  obtain ⟨q0, q1⟩ := bobj_cells k0
  have B0 := Lib.hid hb
  have K1 := Lib.hid k1
  have SZ := Lib.hid hsz
  clear hW hb k0 k1 hsz h hn hm
  go_enter Try.func22, Try.ntmps22
  go_wp2_with fail
  rw [HW.out]
  refine HO.out.mono ?_
  rintro r V ⟨A', c', M', d', rfl, hbat, ⟨hfA, hfM⟩, bV⟩
  have K1v := Lib.hid (kb_below K1.out bV)
  have BV := Lib.hid (B0.out.trans (bV.mono B0.out.size))
  have SV : Hid (w.heap.size + 2 ≤ V.heap.size) := Lib.hid (by have := bV.size; have := SZ.out; omega)
  have FA : Hid (Fresh (w.heap.size + 2) A') := Lib.hid (hfA.mono (by have := SZ.out; omega))
  have FM : Hid (Fresh (w.heap.size + 2) M') := Lib.hid (hfM.mono (by have := SZ.out; omega))
  have HB := Lib.hid hbat
  clear q0 q1 hbat hfA hfM bV HO HW K1 B0
  go_wp2_with (first
    | (refine wpList_store_agg rfl 36 _ _ rfl (w.heap.size + 1) (kvals none 0 0 none 0 0 ⟨0, 0, 0, 0⟩) (kvals A' n c' M' m d' (CN.new t)) rfl rfl ?hz rfl sizeK (onesK _ _ _ _ _ _ _) ?_; (case hz => exact K1v.out); intro w9 k9 f9 _; have K9 := Lib.hid k9; have F9 := Lib.hid f9; clear k9 f9))
  refine bodyPost_ret (v := callV A' n c' M' m d' (CN.new t)) (results_agg Try.results22 rfl (loadK K9.out rfl)) rfl ?_
  have hsv := SV.out
  have b2 : Bat w9 A' n c' M' m d' zs ms := HB.out.behind (FA.out.mono (by omega)) (FM.out.mono (by omega)) F9.out
  have bl : Below w.heap.size w w9 := BV.out.trans (F9.out.below BV.out.size (fun j hj e => by omega))
  exact ⟨_, _, _, _, rfl, b2, ⟨FA.out.mono (by omega), FM.out.mono (by omega)⟩, bl⟩

set_option maxRecDepth 100000 in
set_option maxHeartbeats 2000000 in
theorem krun_any (A : Option Addr) (n c : Nat) (M : Option Addr) (m d : Nat) (K : CN) (zs : List Int) (ms : List P2) (w : World) (h : Bat w A n c M m d zs ms) (hn : n ≤ 1000) (hm : m ≤ 1000) :
    Calls Try.prog 14 #[callV A n c M m d K] w fun r w' => ∃ A' c' M' d', r = .returned (.tuple #[callV A' n c' M' m d' K.run, .bool K.runs]) ∧ Bat w' A' n c' M' m d' zs ms ∧ (Fresh w.heap.size A' ∧ Fresh w.heap.size M') ∧ Below w.heap.size w w' := by
  obtain ⟨W, hW, hb, k0, k1, hsz⟩ := two_new w (kobj A n c M m d K) (kobj none 0 0 none 0 0 ⟨0, 0, 0, 0⟩)
  have HO := Lib.hid (kown_any A n c M m d zs ms W (h.below hb) hn hm)
  have HW : Hid ((w.alloc (.cells #[.slice A n c, .slice M m d, .int .i64 K.st, .int .i64 K.sp, .int .i64 K.ca, .int .u64 K.tm] 36)).alloc (.cells #[.slice none 0 0, .slice none 0 0, .int .i64 0, .int .i64 0, .int .i64 0, .int .u64 0] 36) = W) := Lib.hid hW
  have q0 : W.cell? ⟨w.heap.size, 0, none⟩ = some (.slice A n c) := vobj_cell k0 rfl
  have q1 : W.cell? ⟨w.heap.size, 1, none⟩ = some (.slice M m d) := vobj_cell k0 rfl
  have B0 := Lib.hid hb
  have K0 := Lib.hid k0
  have K1 := Lib.hid k1
  have SZ := Lib.hid hsz
  obtain ⟨fs, hu⟩ := undK
  have HU := Lib.hid hu
  clear hW hb k0 k1 hsz hu h hn hm
  by_cases hs : K.st = 1
  · have e1 : (K.st != 1) = false := by simp [hs]
    rw [show K.run = ⟨2, K.sp, K.ca, K.tm⟩ by simp [CN.run, hs], show K.runs = true by simp [CN.runs, hs]]
    clear hs
    go_enter Try.func14, Try.ntmps14
    go_wp2_with fail
    rw [HW.out]
    refine HO.out.mono ?_
    rintro r V ⟨A', c', M', d', rfl, hbat, ⟨hfA, hfM⟩, bV⟩
    have K0v := Lib.hid (kb_below K0.out bV)
    have K1v := Lib.hid (kb_below K1.out bV)
    have BV := Lib.hid (B0.out.trans (bV.mono B0.out.size))
    have SV : Hid (w.heap.size + 2 ≤ V.heap.size) := Lib.hid (by have := bV.size; have := SZ.out; omega)
    have FA : Hid (Fresh (w.heap.size + 2) A') := Lib.hid (hfA.mono (by have := SZ.out; omega))
    have FM : Hid (Fresh (w.heap.size + 2) M') := Lib.hid (hfM.mono (by have := SZ.out; omega))
    have HB := Lib.hid hbat
    clear q0 q1 hbat hfA hfM bV HO HW K0 K1 B0
    go_wp2_with (first
      | (refine wpList_store_part rfl 34 _ _ rfl w.heap.size 0 36 (kvals A n c M m d K) [.slice A' n c', .slice M' m d'] rfl rfl ?hz (by show 0 + 2 ≤ 6; decide) sizeKB (onesKB _ _ _ _ _ _) ?_; (case hz => exact K0v.out); intro w5 k5 f5 _;
         have K5 : Hid (w5.heap[w.heap.size]? = some (kobj A' n c' M' m d' K)) := Lib.hid k5; have F5 := Lib.hid f5; have Z5 := Lib.hid ((f5.block (w.heap.size + 1) (heap_lt K1v.out) (by show ¬ w.heap.size + 1 = w.heap.size; omega)).trans K1v.out);
         have p2 : w5.cell? ⟨w.heap.size, 2, none⟩ = some (.int .i64 K.st) := vobj_cell K5.out rfl; have p3 : w5.cell? ⟨w.heap.size, 3, none⟩ = some (.int .i64 K.sp) := vobj_cell K5.out rfl; clear k5 f5)
      | (refine wpList_store_one rfl 3 _ _ rfl w.heap.size 2 36 (kvals A' n c' M' m d' K) (.int .i64 2) rfl rfl ?hz (by show 2 < 6; decide) size1i rfl rfl ?_; (case hz => exact K5.out); intro w6 k6 f6 _;
         have K6 : Hid (w6.heap[w.heap.size]? = some (kobj A' n c' M' m d' ⟨2, K.sp, K.ca, K.tm⟩)) := Lib.hid k6; have F6 := Lib.hid f6; have Z6 := Lib.hid ((f6.block (w.heap.size + 1) (heap_lt Z5.out) (by show ¬ w.heap.size + 1 = w.heap.size; omega)).trans Z5.out);
         have p3 : w6.cell? ⟨w.heap.size, 3, none⟩ = some (.int .i64 K.sp) := vobj_cell K6.out rfl; clear k6 f6)
      | (refine wpList_load_agg rfl 36 _ rfl w.heap.size rfl (kvals A' n c' M' m d' ⟨2, K.sp, K.ca, K.tm⟩) ?hz _ HU.out rfl sizeK ?_; (case hz => exact K6.out))
      | (refine wpList_store_agg rfl 36 _ _ rfl (w.heap.size + 1) (kvals none 0 0 none 0 0 ⟨0, 0, 0, 0⟩) (kvals A' n c' M' m d' ⟨2, K.sp, K.ca, K.tm⟩) rfl rfl ?hz rfl sizeK (onesK _ _ _ _ _ _ _) ?_; (case hz => exact Z6.out); intro w9 k9 f9 _; have K9 := Lib.hid k9; have F9 := Lib.hid f9; clear k9 f9))
    refine bodyPost_ret (v := .tuple #[callV A' n c' M' m d' ⟨2, K.sp, K.ca, K.tm⟩, .bool true]) (results_agg1 Try.results14 rfl (loadK K9.out rfl) rfl) rfl ?_
    have fs : Frm (· = w.heap.size) V w6 := (F5.out).trans F6.out (fun _ _ e => e)
    have hsv := SV.out
    have b1 : Bat w6 A' n c' M' m d' zs ms := HB.out.behind (FA.out.mono (by omega)) (FM.out.mono (by omega)) fs
    have b2 : Bat w9 A' n c' M' m d' zs ms := b1.behind (FA.out.mono (by omega)) (FM.out.mono (by omega)) F9.out
    have bl : Below w.heap.size w w9 := (BV.out.trans (fs.below BV.out.size (fun j hj e => by omega))).trans (F9.out.below (by have := fs.size; have := BV.out.size; omega) (fun j hj e => by omega))
    exact ⟨_, _, _, _, rfl, b2, ⟨FA.out.mono (by omega), FM.out.mono (by omega)⟩, bl⟩
  · have e1 : (K.st != 1) = true := by simp [hs]
    rw [show K.run = K by simp [CN.run, hs], show K.runs = false by simp [CN.runs, hs]]
    clear hs
    go_enter Try.func14, Try.ntmps14
    go_wp2_with fail
    rw [HW.out]
    refine HO.out.mono ?_
    rintro r V ⟨A', c', M', d', rfl, hbat, ⟨hfA, hfM⟩, bV⟩
    have K0v := Lib.hid (kb_below K0.out bV)
    have K1v := Lib.hid (kb_below K1.out bV)
    have BV := Lib.hid (B0.out.trans (bV.mono B0.out.size))
    have SV : Hid (w.heap.size + 2 ≤ V.heap.size) := Lib.hid (by have := bV.size; have := SZ.out; omega)
    have FA : Hid (Fresh (w.heap.size + 2) A') := Lib.hid (hfA.mono (by have := SZ.out; omega))
    have FM : Hid (Fresh (w.heap.size + 2) M') := Lib.hid (hfM.mono (by have := SZ.out; omega))
    have HB := Lib.hid hbat
    clear q0 q1 hbat hfA hfM bV HO HW K0 K1 B0
    go_wp2_with (first
      | (refine wpList_store_part rfl 34 _ _ rfl w.heap.size 0 36 (kvals A n c M m d K) [.slice A' n c', .slice M' m d'] rfl rfl ?hz (by show 0 + 2 ≤ 6; decide) sizeKB (onesKB _ _ _ _ _ _) ?_; (case hz => exact K0v.out); intro w5 k5 f5 _;
         have K5 : Hid (w5.heap[w.heap.size]? = some (kobj A' n c' M' m d' K)) := Lib.hid k5; have F5 := Lib.hid f5; have Z5 := Lib.hid ((f5.block (w.heap.size + 1) (heap_lt K1v.out) (by show ¬ w.heap.size + 1 = w.heap.size; omega)).trans K1v.out);
         have p2 : w5.cell? ⟨w.heap.size, 2, none⟩ = some (.int .i64 K.st) := vobj_cell K5.out rfl; have p3 : w5.cell? ⟨w.heap.size, 3, none⟩ = some (.int .i64 K.sp) := vobj_cell K5.out rfl; clear k5 f5)
      | (refine wpList_load_agg rfl 36 _ rfl w.heap.size rfl (kvals A' n c' M' m d' K) ?hz _ HU.out rfl sizeK ?_; (case hz => exact K5.out))
      | (refine wpList_store_agg rfl 36 _ _ rfl (w.heap.size + 1) (kvals none 0 0 none 0 0 ⟨0, 0, 0, 0⟩) (kvals A' n c' M' m d' K) rfl rfl ?hz rfl sizeK (onesK _ _ _ _ _ _ _) ?_; (case hz => exact Z5.out); intro w9 k9 f9 _; have K9 := Lib.hid k9; have F9 := Lib.hid f9; clear k9 f9))
    refine bodyPost_ret (v := .tuple #[callV A' n c' M' m d' K, .bool false]) (results_agg1 Try.results14 rfl (loadK K9.out rfl) rfl) rfl ?_
    have fs : Frm (· = w.heap.size) V w5 := F5.out
    have hsv := SV.out
    have b1 : Bat w5 A' n c' M' m d' zs ms := HB.out.behind (FA.out.mono (by omega)) (FM.out.mono (by omega)) fs
    have b2 : Bat w9 A' n c' M' m d' zs ms := b1.behind (FA.out.mono (by omega)) (FM.out.mono (by omega)) F9.out
    have bl : Below w.heap.size w w9 := (BV.out.trans (fs.below BV.out.size (fun j hj e => by omega))).trans (F9.out.below (by have := fs.size; have := BV.out.size; omega) (fun j hj e => by omega))
    exact ⟨_, _, _, _, rfl, b2, ⟨FA.out.mono (by omega), FM.out.mono (by omega)⟩, bl⟩

set_option maxRecDepth 100000 in
set_option maxHeartbeats 2000000 in
theorem kend_any (A : Option Addr) (n c : Nat) (M : Option Addr) (m d : Nat) (K : CN) (zs : List Int) (ms : List P2) (w : World) (h : Bat w A n c M m d zs ms) (hn : n ≤ 1000) (hm : m ≤ 1000) :
    Calls Try.prog 19 #[callV A n c M m d K] w fun r w' => ∃ A' c' M' d', r = .returned (.tuple #[callV A' n c' M' m d' K.fin, .bool K.ends]) ∧ Bat w' A' n c' M' m d' zs ms ∧ (Fresh w.heap.size A' ∧ Fresh w.heap.size M') ∧ Below w.heap.size w w' := by
  obtain ⟨W, hW, hb, k0, k1, hsz⟩ := two_new w (kobj A n c M m d K) (kobj none 0 0 none 0 0 ⟨0, 0, 0, 0⟩)
  have HO := Lib.hid (kown_any A n c M m d zs ms W (h.below hb) hn hm)
  have HW : Hid ((w.alloc (.cells #[.slice A n c, .slice M m d, .int .i64 K.st, .int .i64 K.sp, .int .i64 K.ca, .int .u64 K.tm] 36)).alloc (.cells #[.slice none 0 0, .slice none 0 0, .int .i64 0, .int .i64 0, .int .i64 0, .int .u64 0] 36) = W) := Lib.hid hW
  have q0 : W.cell? ⟨w.heap.size, 0, none⟩ = some (.slice A n c) := vobj_cell k0 rfl
  have q1 : W.cell? ⟨w.heap.size, 1, none⟩ = some (.slice M m d) := vobj_cell k0 rfl
  have B0 := Lib.hid hb
  have K0 := Lib.hid k0
  have K1 := Lib.hid k1
  have SZ := Lib.hid hsz
  obtain ⟨fs, hu⟩ := undK
  have HU := Lib.hid hu
  clear hW hb k0 k1 hsz hu h hn hm
  by_cases hs : 1 ≤ K.st ∧ K.st ≤ 3
  · have e1 : ¬ K.st < 1 := by omega
    have e2 : ¬ (4 : Int) ≤ K.st := by omega
    rw [show K.fin = ⟨4, K.sp, K.ca, K.tm⟩ by simp [CN.fin, hs], show K.ends = true by simp [CN.ends, hs]]
    clear hs
    go_enter Try.func19, Try.ntmps19
    go_wp2_with fail
    rw [HW.out]
    refine HO.out.mono ?_
    rintro r V ⟨A', c', M', d', rfl, hbat, ⟨hfA, hfM⟩, bV⟩
    have K0v := Lib.hid (kb_below K0.out bV)
    have K1v := Lib.hid (kb_below K1.out bV)
    have BV := Lib.hid (B0.out.trans (bV.mono B0.out.size))
    have SV : Hid (w.heap.size + 2 ≤ V.heap.size) := Lib.hid (by have := bV.size; have := SZ.out; omega)
    have FA : Hid (Fresh (w.heap.size + 2) A') := Lib.hid (hfA.mono (by have := SZ.out; omega))
    have FM : Hid (Fresh (w.heap.size + 2) M') := Lib.hid (hfM.mono (by have := SZ.out; omega))
    have HB := Lib.hid hbat
    clear q0 q1 hbat hfA hfM bV HO HW K0 K1 B0
    go_wp2_with (first
      | (refine wpList_store_part rfl 34 _ _ rfl w.heap.size 0 36 (kvals A n c M m d K) [.slice A' n c', .slice M' m d'] rfl rfl ?hz (by show 0 + 2 ≤ 6; decide) sizeKB (onesKB _ _ _ _ _ _) ?_; (case hz => exact K0v.out); intro w5 k5 f5 _;
         have K5 : Hid (w5.heap[w.heap.size]? = some (kobj A' n c' M' m d' K)) := Lib.hid k5; have F5 := Lib.hid f5; have Z5 := Lib.hid ((f5.block (w.heap.size + 1) (heap_lt K1v.out) (by show ¬ w.heap.size + 1 = w.heap.size; omega)).trans K1v.out);
         have p2 : w5.cell? ⟨w.heap.size, 2, none⟩ = some (.int .i64 K.st) := vobj_cell K5.out rfl; have p3 : w5.cell? ⟨w.heap.size, 3, none⟩ = some (.int .i64 K.sp) := vobj_cell K5.out rfl; clear k5 f5)
      | (refine wpList_store_one rfl 3 _ _ rfl w.heap.size 2 36 (kvals A' n c' M' m d' K) (.int .i64 4) rfl rfl ?hz (by show 2 < 6; decide) size1i rfl rfl ?_; (case hz => exact K5.out); intro w6 k6 f6 _;
         have K6 : Hid (w6.heap[w.heap.size]? = some (kobj A' n c' M' m d' ⟨4, K.sp, K.ca, K.tm⟩)) := Lib.hid k6; have F6 := Lib.hid f6; have Z6 := Lib.hid ((f6.block (w.heap.size + 1) (heap_lt Z5.out) (by show ¬ w.heap.size + 1 = w.heap.size; omega)).trans Z5.out);
         have p3 : w6.cell? ⟨w.heap.size, 3, none⟩ = some (.int .i64 K.sp) := vobj_cell K6.out rfl; clear k6 f6)
      | (refine wpList_load_agg rfl 36 _ rfl w.heap.size rfl (kvals A' n c' M' m d' ⟨4, K.sp, K.ca, K.tm⟩) ?hz _ HU.out rfl sizeK ?_; (case hz => exact K6.out))
      | (refine wpList_store_agg rfl 36 _ _ rfl (w.heap.size + 1) (kvals none 0 0 none 0 0 ⟨0, 0, 0, 0⟩) (kvals A' n c' M' m d' ⟨4, K.sp, K.ca, K.tm⟩) rfl rfl ?hz rfl sizeK (onesK _ _ _ _ _ _ _) ?_; (case hz => exact Z6.out); intro w9 k9 f9 _; have K9 := Lib.hid k9; have F9 := Lib.hid f9; clear k9 f9))
    refine bodyPost_ret (v := .tuple #[callV A' n c' M' m d' ⟨4, K.sp, K.ca, K.tm⟩, .bool true]) (results_agg1 Try.results19 rfl (loadK K9.out rfl) rfl) rfl ?_
    have fs : Frm (· = w.heap.size) V w6 := (F5.out).trans F6.out (fun _ _ e => e)
    have hsv := SV.out
    have b1 : Bat w6 A' n c' M' m d' zs ms := HB.out.behind (FA.out.mono (by omega)) (FM.out.mono (by omega)) fs
    have b2 : Bat w9 A' n c' M' m d' zs ms := b1.behind (FA.out.mono (by omega)) (FM.out.mono (by omega)) F9.out
    have bl : Below w.heap.size w w9 := (BV.out.trans (fs.below BV.out.size (fun j hj e => by omega))).trans (F9.out.below (by have := fs.size; have := BV.out.size; omega) (fun j hj e => by omega))
    exact ⟨_, _, _, _, rfl, b2, ⟨FA.out.mono (by omega), FM.out.mono (by omega)⟩, bl⟩
  · rw [show K.fin = K by simp only [CN.fin, if_neg hs], show K.ends = false by simp only [CN.ends, decide_eq_false hs]]
    by_cases e1 : K.st < 1
    · clear hs
      go_enter Try.func19, Try.ntmps19
      go_wp2_with fail
      rw [HW.out]
      refine HO.out.mono ?_
      rintro r V ⟨A', c', M', d', rfl, hbat, ⟨hfA, hfM⟩, bV⟩
      have K0v := Lib.hid (kb_below K0.out bV)
      have K1v := Lib.hid (kb_below K1.out bV)
      have BV := Lib.hid (B0.out.trans (bV.mono B0.out.size))
      have SV : Hid (w.heap.size + 2 ≤ V.heap.size) := Lib.hid (by have := bV.size; have := SZ.out; omega)
      have FA : Hid (Fresh (w.heap.size + 2) A') := Lib.hid (hfA.mono (by have := SZ.out; omega))
      have FM : Hid (Fresh (w.heap.size + 2) M') := Lib.hid (hfM.mono (by have := SZ.out; omega))
      have HB := Lib.hid hbat
      clear q0 q1 hbat hfA hfM bV HO HW K0 K1 B0
      go_wp2_with (first
        | (refine wpList_store_part rfl 34 _ _ rfl w.heap.size 0 36 (kvals A n c M m d K) [.slice A' n c', .slice M' m d'] rfl rfl ?hz (by show 0 + 2 ≤ 6; decide) sizeKB (onesKB _ _ _ _ _ _) ?_; (case hz => exact K0v.out); intro w5 k5 f5 _;
           have K5 : Hid (w5.heap[w.heap.size]? = some (kobj A' n c' M' m d' K)) := Lib.hid k5; have F5 := Lib.hid f5; have Z5 := Lib.hid ((f5.block (w.heap.size + 1) (heap_lt K1v.out) (by show ¬ w.heap.size + 1 = w.heap.size; omega)).trans K1v.out);
           have p2 : w5.cell? ⟨w.heap.size, 2, none⟩ = some (.int .i64 K.st) := vobj_cell K5.out rfl; have p3 : w5.cell? ⟨w.heap.size, 3, none⟩ = some (.int .i64 K.sp) := vobj_cell K5.out rfl; clear k5 f5)
        | (refine wpList_load_agg rfl 36 _ rfl w.heap.size rfl (kvals A' n c' M' m d' K) ?hz _ HU.out rfl sizeK ?_; (case hz => exact K5.out))
        | (refine wpList_store_agg rfl 36 _ _ rfl (w.heap.size + 1) (kvals none 0 0 none 0 0 ⟨0, 0, 0, 0⟩) (kvals A' n c' M' m d' K) rfl rfl ?hz rfl sizeK (onesK _ _ _ _ _ _ _) ?_; (case hz => exact Z5.out); intro w9 k9 f9 _; have K9 := Lib.hid k9; have F9 := Lib.hid f9; clear k9 f9))
      refine bodyPost_ret (v := .tuple #[callV A' n c' M' m d' K, .bool false]) (results_agg1 Try.results19 rfl (loadK K9.out rfl) rfl) rfl ?_
      have fs : Frm (· = w.heap.size) V w5 := F5.out
      have hsv := SV.out
      have b1 : Bat w5 A' n c' M' m d' zs ms := HB.out.behind (FA.out.mono (by omega)) (FM.out.mono (by omega)) fs
      have b2 : Bat w9 A' n c' M' m d' zs ms := b1.behind (FA.out.mono (by omega)) (FM.out.mono (by omega)) F9.out
      have bl : Below w.heap.size w w9 := (BV.out.trans (fs.below BV.out.size (fun j hj e => by omega))).trans (F9.out.below (by have := fs.size; have := BV.out.size; omega) (fun j hj e => by omega))
      exact ⟨_, _, _, _, rfl, b2, ⟨FA.out.mono (by omega), FM.out.mono (by omega)⟩, bl⟩
    · have e2 : (4 : Int) ≤ K.st := by omega
      clear hs
      go_enter Try.func19, Try.ntmps19
      go_wp2_with fail
      rw [HW.out]
      refine HO.out.mono ?_
      rintro r V ⟨A', c', M', d', rfl, hbat, ⟨hfA, hfM⟩, bV⟩
      have K0v := Lib.hid (kb_below K0.out bV)
      have K1v := Lib.hid (kb_below K1.out bV)
      have BV := Lib.hid (B0.out.trans (bV.mono B0.out.size))
      have SV : Hid (w.heap.size + 2 ≤ V.heap.size) := Lib.hid (by have := bV.size; have := SZ.out; omega)
      have FA : Hid (Fresh (w.heap.size + 2) A') := Lib.hid (hfA.mono (by have := SZ.out; omega))
      have FM : Hid (Fresh (w.heap.size + 2) M') := Lib.hid (hfM.mono (by have := SZ.out; omega))
      have HB := Lib.hid hbat
      clear q0 q1 hbat hfA hfM bV HO HW K0 K1 B0
      go_wp2_with (first
        | (refine wpList_store_part rfl 34 _ _ rfl w.heap.size 0 36 (kvals A n c M m d K) [.slice A' n c', .slice M' m d'] rfl rfl ?hz (by show 0 + 2 ≤ 6; decide) sizeKB (onesKB _ _ _ _ _ _) ?_; (case hz => exact K0v.out); intro w5 k5 f5 _;
           have K5 : Hid (w5.heap[w.heap.size]? = some (kobj A' n c' M' m d' K)) := Lib.hid k5; have F5 := Lib.hid f5; have Z5 := Lib.hid ((f5.block (w.heap.size + 1) (heap_lt K1v.out) (by show ¬ w.heap.size + 1 = w.heap.size; omega)).trans K1v.out);
           have p2 : w5.cell? ⟨w.heap.size, 2, none⟩ = some (.int .i64 K.st) := vobj_cell K5.out rfl; have p3 : w5.cell? ⟨w.heap.size, 3, none⟩ = some (.int .i64 K.sp) := vobj_cell K5.out rfl; clear k5 f5)
        | (refine wpList_load_agg rfl 36 _ rfl w.heap.size rfl (kvals A' n c' M' m d' K) ?hz _ HU.out rfl sizeK ?_; (case hz => exact K5.out))
        | (refine wpList_store_agg rfl 36 _ _ rfl (w.heap.size + 1) (kvals none 0 0 none 0 0 ⟨0, 0, 0, 0⟩) (kvals A' n c' M' m d' K) rfl rfl ?hz rfl sizeK (onesK _ _ _ _ _ _ _) ?_; (case hz => exact Z5.out); intro w9 k9 f9 _; have K9 := Lib.hid k9; have F9 := Lib.hid f9; clear k9 f9))
      refine bodyPost_ret (v := .tuple #[callV A' n c' M' m d' K, .bool false]) (results_agg1 Try.results19 rfl (loadK K9.out rfl) rfl) rfl ?_
      have fs : Frm (· = w.heap.size) V w5 := F5.out
      have hsv := SV.out
      have b1 : Bat w5 A' n c' M' m d' zs ms := HB.out.behind (FA.out.mono (by omega)) (FM.out.mono (by omega)) fs
      have b2 : Bat w9 A' n c' M' m d' zs ms := b1.behind (FA.out.mono (by omega)) (FM.out.mono (by omega)) F9.out
      have bl : Below w.heap.size w w9 := (BV.out.trans (fs.below BV.out.size (fun j hj e => by omega))).trans (F9.out.below (by have := fs.size; have := BV.out.size; omega) (fun j hj e => by omega))
      exact ⟨_, _, _, _, rfl, b2, ⟨FA.out.mono (by omega), FM.out.mono (by omega)⟩, bl⟩

theorem wrap_next {a b : Int} (ha : wf64 a) (hb : wf64 b) (h : a < b) : IntKind.i64.wrap (a + 1) = a + 1 := by
  obtain ⟨h1, h2⟩ := ha
  obtain ⟨h3, h4⟩ := hb
  rw [IntKind.wrap_i64]; omega

set_option maxRecDepth 100000 in
set_option maxHeartbeats 2000000 in
theorem kfail_any (A : Option Addr) (n c : Nat) (M : Option Addr) (m d : Nat) (K : CN) (z k : Int) (zs : List Int) (ms : List P2) (w : World) (h : Bat w A n c M m d zs ms) (hn : n ≤ 1000) (hm : m ≤ 1000) (hsp : wf64 K.sp) (hk : wf64 k) :
    Calls Try.prog 17 #[callV A n c M m d K, .int .i64 z, .int .i64 k] w fun r w' => ∃ A' c' M' d', r = .returned (.tuple #[callV A' n c' M' m d' (K.fail z k), .bool (K.fails k)]) ∧ Bat w' A' n c' M' m d' zs ms ∧ (Fresh w.heap.size A' ∧ Fresh w.heap.size M') ∧ Below w.heap.size w w' := by
  obtain ⟨W, hW, hb, k0, k1, hsz⟩ := two_new w (kobj A n c M m d K) (kobj none 0 0 none 0 0 ⟨0, 0, 0, 0⟩)
  have HO := Lib.hid (kown_any A n c M m d zs ms W (h.below hb) hn hm)
  have HW : Hid ((w.alloc (.cells #[.slice A n c, .slice M m d, .int .i64 K.st, .int .i64 K.sp, .int .i64 K.ca, .int .u64 K.tm] 36)).alloc (.cells #[.slice none 0 0, .slice none 0 0, .int .i64 0, .int .i64 0, .int .i64 0, .int .u64 0] 36) = W) := Lib.hid hW
  have q0 : W.cell? ⟨w.heap.size, 0, none⟩ = some (.slice A n c) := vobj_cell k0 rfl
  have q1 : W.cell? ⟨w.heap.size, 1, none⟩ = some (.slice M m d) := vobj_cell k0 rfl
  have B0 := Lib.hid hb
  have K0 := Lib.hid k0
  have K1 := Lib.hid k1
  have SZ := Lib.hid hsz
  obtain ⟨fs, hu⟩ := undK
  have HU := Lib.hid hu
  clear hW hb k0 k1 hsz hu h hn hm
  by_cases h1 : K.st = 1
  · have hs : 1 ≤ K.st ∧ K.st ≤ 3 := by omega
    have he3 : ¬ K.st = 3 := by omega
    have e1 : (K.st == 1) = true := by simp [h1]
    clear h1
    by_cases hc : K.sp < k
    · have e5 : ¬ k ≤ K.sp := by omega
      have e6 : IntKind.i64.wrap (K.sp + 1) = K.sp + 1 := wrap_next hsp hk hc
      rw [show K.fail z k = ⟨3, K.sp + 1, z, K.tm⟩ by simp only [CN.fail, if_pos hs, if_pos hc, CN.why, if_neg he3], show K.fails k = true by simp only [CN.fails, hs, hc, and_self, decide_true]]
      clear hs hc hsp hk he3
      go_enter Try.func17, Try.ntmps17
      go_wp2_with fail
      rw [HW.out]
      refine HO.out.mono ?_
      rintro r V ⟨A', c', M', d', rfl, hbat, ⟨hfA, hfM⟩, bV⟩
      have K0v := Lib.hid (kb_below K0.out bV)
      have K1v := Lib.hid (kb_below K1.out bV)
      have BV := Lib.hid (B0.out.trans (bV.mono B0.out.size))
      have SV : Hid (w.heap.size + 2 ≤ V.heap.size) := Lib.hid (by have := bV.size; have := SZ.out; omega)
      have FA : Hid (Fresh (w.heap.size + 2) A') := Lib.hid (hfA.mono (by have := SZ.out; omega))
      have FM : Hid (Fresh (w.heap.size + 2) M') := Lib.hid (hfM.mono (by have := SZ.out; omega))
      have HB := Lib.hid hbat
      clear q0 q1 hbat hfA hfM bV HO HW K0 K1 B0
      go_wp2_with (first
        | (refine wpList_store_part rfl 34 _ _ rfl w.heap.size 0 36 (kvals A n c M m d K) [.slice A' n c', .slice M' m d'] rfl rfl ?hz (by show 0 + 2 ≤ 6; decide) sizeKB (onesKB _ _ _ _ _ _) ?_; (case hz => exact K0v.out); intro w5 k5 f5 _;
           have K5 : Hid (w5.heap[w.heap.size]? = some (kobj A' n c' M' m d' K)) := Lib.hid k5; have F5 := Lib.hid f5; have Z5 := Lib.hid ((f5.block (w.heap.size + 1) (heap_lt K1v.out) (by show ¬ w.heap.size + 1 = w.heap.size; omega)).trans K1v.out);
           have p2 : w5.cell? ⟨w.heap.size, 2, none⟩ = some (.int .i64 K.st) := vobj_cell K5.out rfl; have p3 : w5.cell? ⟨w.heap.size, 3, none⟩ = some (.int .i64 K.sp) := vobj_cell K5.out rfl; clear k5 f5)
        | (refine wpList_store_one rfl 3 _ _ rfl w.heap.size 4 36 (kvals A' n c' M' m d' K) (.int .i64 z) rfl rfl ?hz (by show 4 < 6; decide) size1i rfl rfl ?_; (case hz => exact K5.out); intro w6 k6 f6 _;
           have K6 : Hid (w6.heap[w.heap.size]? = some (kobj A' n c' M' m d' ⟨K.st, K.sp, z, K.tm⟩)) := Lib.hid k6; have F6 := Lib.hid f6; have Z6 := Lib.hid ((f6.block (w.heap.size + 1) (heap_lt Z5.out) (by show ¬ w.heap.size + 1 = w.heap.size; omega)).trans Z5.out);
           have p3 : w6.cell? ⟨w.heap.size, 3, none⟩ = some (.int .i64 K.sp) := vobj_cell K6.out rfl; clear k6 f6)
        | (refine wpList_store_one rfl 3 _ _ rfl w.heap.size 2 36 (kvals A' n c' M' m d' ⟨K.st, K.sp, z, K.tm⟩) (.int .i64 3) rfl rfl ?hz (by show 2 < 6; decide) size1i rfl rfl ?_; (case hz => exact K6.out); intro w7 k7 f7 _;
           have K7 : Hid (w7.heap[w.heap.size]? = some (kobj A' n c' M' m d' ⟨3, K.sp, z, K.tm⟩)) := Lib.hid k7; have F7 := Lib.hid f7; have Z7 := Lib.hid ((f7.block (w.heap.size + 1) (heap_lt Z6.out) (by show ¬ w.heap.size + 1 = w.heap.size; omega)).trans Z6.out);
           have p3 : w7.cell? ⟨w.heap.size, 3, none⟩ = some (.int .i64 K.sp) := vobj_cell K7.out rfl; clear k7 f7)
        | (refine wpList_store_one rfl 3 _ _ rfl w.heap.size 3 36 (kvals A' n c' M' m d' ⟨3, K.sp, z, K.tm⟩) (.int .i64 (K.sp + 1)) rfl rfl ?hz (by show 3 < 6; decide) size1i rfl rfl ?_; (case hz => exact K7.out); intro w8 k8 f8 _;
           have K8 : Hid (w8.heap[w.heap.size]? = some (kobj A' n c' M' m d' ⟨3, K.sp + 1, z, K.tm⟩)) := Lib.hid k8; have F8 := Lib.hid f8; have Z8 := Lib.hid ((f8.block (w.heap.size + 1) (heap_lt Z7.out) (by show ¬ w.heap.size + 1 = w.heap.size; omega)).trans Z7.out);
           clear k8 f8)
        | (refine wpList_load_agg rfl 36 _ rfl w.heap.size rfl (kvals A' n c' M' m d' ⟨3, K.sp + 1, z, K.tm⟩) ?hz _ HU.out rfl sizeK ?_; (case hz => exact K8.out))
        | (refine wpList_store_agg rfl 36 _ _ rfl (w.heap.size + 1) (kvals none 0 0 none 0 0 ⟨0, 0, 0, 0⟩) (kvals A' n c' M' m d' ⟨3, K.sp + 1, z, K.tm⟩) rfl rfl ?hz rfl sizeK (onesK _ _ _ _ _ _ _) ?_; (case hz => exact Z8.out); intro w9 k9 f9 _; have K9 := Lib.hid k9; have F9 := Lib.hid f9; clear k9 f9))
      refine bodyPost_ret (v := .tuple #[callV A' n c' M' m d' ⟨3, K.sp + 1, z, K.tm⟩, .bool true]) (results_agg1 Try.results17 rfl (loadK K9.out rfl) rfl) rfl ?_
      have fs : Frm (· = w.heap.size) V w8 := (((F5.out).trans F6.out (fun _ _ e => e)).trans F7.out (fun _ _ e => e)).trans F8.out (fun _ _ e => e)
      have hsv := SV.out
      have b1 : Bat w8 A' n c' M' m d' zs ms := HB.out.behind (FA.out.mono (by omega)) (FM.out.mono (by omega)) fs
      have b2 : Bat w9 A' n c' M' m d' zs ms := b1.behind (FA.out.mono (by omega)) (FM.out.mono (by omega)) F9.out
      have bl : Below w.heap.size w w9 := (BV.out.trans (fs.below BV.out.size (fun j hj e => by omega))).trans (F9.out.below (by have := fs.size; have := BV.out.size; omega) (fun j hj e => by omega))
      exact ⟨_, _, _, _, rfl, b2, ⟨FA.out.mono (by omega), FM.out.mono (by omega)⟩, bl⟩
    · have e5 : k ≤ K.sp := by omega
      rw [show K.fail z k = ⟨4, K.sp, z, K.tm⟩ by simp only [CN.fail, if_pos hs, if_neg hc, CN.why, if_neg he3], show K.fails k = false by simp only [CN.fails, hc, and_false, decide_false]]
      clear hs hc hsp hk he3
      go_enter Try.func17, Try.ntmps17
      go_wp2_with fail
      rw [HW.out]
      refine HO.out.mono ?_
      rintro r V ⟨A', c', M', d', rfl, hbat, ⟨hfA, hfM⟩, bV⟩
      have K0v := Lib.hid (kb_below K0.out bV)
      have K1v := Lib.hid (kb_below K1.out bV)
      have BV := Lib.hid (B0.out.trans (bV.mono B0.out.size))
      have SV : Hid (w.heap.size + 2 ≤ V.heap.size) := Lib.hid (by have := bV.size; have := SZ.out; omega)
      have FA : Hid (Fresh (w.heap.size + 2) A') := Lib.hid (hfA.mono (by have := SZ.out; omega))
      have FM : Hid (Fresh (w.heap.size + 2) M') := Lib.hid (hfM.mono (by have := SZ.out; omega))
      have HB := Lib.hid hbat
      clear q0 q1 hbat hfA hfM bV HO HW K0 K1 B0
      go_wp2_with (first
        | (refine wpList_store_part rfl 34 _ _ rfl w.heap.size 0 36 (kvals A n c M m d K) [.slice A' n c', .slice M' m d'] rfl rfl ?hz (by show 0 + 2 ≤ 6; decide) sizeKB (onesKB _ _ _ _ _ _) ?_; (case hz => exact K0v.out); intro w5 k5 f5 _;
           have K5 : Hid (w5.heap[w.heap.size]? = some (kobj A' n c' M' m d' K)) := Lib.hid k5; have F5 := Lib.hid f5; have Z5 := Lib.hid ((f5.block (w.heap.size + 1) (heap_lt K1v.out) (by show ¬ w.heap.size + 1 = w.heap.size; omega)).trans K1v.out);
           have p2 : w5.cell? ⟨w.heap.size, 2, none⟩ = some (.int .i64 K.st) := vobj_cell K5.out rfl; have p3 : w5.cell? ⟨w.heap.size, 3, none⟩ = some (.int .i64 K.sp) := vobj_cell K5.out rfl; clear k5 f5)
        | (refine wpList_store_one rfl 3 _ _ rfl w.heap.size 4 36 (kvals A' n c' M' m d' K) (.int .i64 z) rfl rfl ?hz (by show 4 < 6; decide) size1i rfl rfl ?_; (case hz => exact K5.out); intro w6 k6 f6 _;
           have K6 : Hid (w6.heap[w.heap.size]? = some (kobj A' n c' M' m d' ⟨K.st, K.sp, z, K.tm⟩)) := Lib.hid k6; have F6 := Lib.hid f6; have Z6 := Lib.hid ((f6.block (w.heap.size + 1) (heap_lt Z5.out) (by show ¬ w.heap.size + 1 = w.heap.size; omega)).trans Z5.out);
           have p3 : w6.cell? ⟨w.heap.size, 3, none⟩ = some (.int .i64 K.sp) := vobj_cell K6.out rfl; clear k6 f6)
        | (refine wpList_store_one rfl 3 _ _ rfl w.heap.size 2 36 (kvals A' n c' M' m d' ⟨K.st, K.sp, z, K.tm⟩) (.int .i64 4) rfl rfl ?hz (by show 2 < 6; decide) size1i rfl rfl ?_; (case hz => exact K6.out); intro w7 k7 f7 _;
           have K7 : Hid (w7.heap[w.heap.size]? = some (kobj A' n c' M' m d' ⟨4, K.sp, z, K.tm⟩)) := Lib.hid k7; have F7 := Lib.hid f7; have Z7 := Lib.hid ((f7.block (w.heap.size + 1) (heap_lt Z6.out) (by show ¬ w.heap.size + 1 = w.heap.size; omega)).trans Z6.out);
           have p3 : w7.cell? ⟨w.heap.size, 3, none⟩ = some (.int .i64 K.sp) := vobj_cell K7.out rfl; clear k7 f7)
        | (refine wpList_load_agg rfl 36 _ rfl w.heap.size rfl (kvals A' n c' M' m d' ⟨4, K.sp, z, K.tm⟩) ?hz _ HU.out rfl sizeK ?_; (case hz => exact K7.out))
        | (refine wpList_store_agg rfl 36 _ _ rfl (w.heap.size + 1) (kvals none 0 0 none 0 0 ⟨0, 0, 0, 0⟩) (kvals A' n c' M' m d' ⟨4, K.sp, z, K.tm⟩) rfl rfl ?hz rfl sizeK (onesK _ _ _ _ _ _ _) ?_; (case hz => exact Z7.out); intro w9 k9 f9 _; have K9 := Lib.hid k9; have F9 := Lib.hid f9; clear k9 f9))
      refine bodyPost_ret (v := .tuple #[callV A' n c' M' m d' ⟨4, K.sp, z, K.tm⟩, .bool false]) (results_agg1 Try.results17 rfl (loadK K9.out rfl) rfl) rfl ?_
      have fs : Frm (· = w.heap.size) V w7 := ((F5.out).trans F6.out (fun _ _ e => e)).trans F7.out (fun _ _ e => e)
      have hsv := SV.out
      have b1 : Bat w7 A' n c' M' m d' zs ms := HB.out.behind (FA.out.mono (by omega)) (FM.out.mono (by omega)) fs
      have b2 : Bat w9 A' n c' M' m d' zs ms := b1.behind (FA.out.mono (by omega)) (FM.out.mono (by omega)) F9.out
      have bl : Below w.heap.size w w9 := (BV.out.trans (fs.below BV.out.size (fun j hj e => by omega))).trans (F9.out.below (by have := fs.size; have := BV.out.size; omega) (fun j hj e => by omega))
      exact ⟨_, _, _, _, rfl, b2, ⟨FA.out.mono (by omega), FM.out.mono (by omega)⟩, bl⟩
  · have e1 : (K.st == 1) = false := by simp [h1]
    by_cases h2 : K.st = 2
    · have hs : 1 ≤ K.st ∧ K.st ≤ 3 := by omega
      have he3 : ¬ K.st = 3 := by omega
      have e2 : (K.st == 2) = true := by simp [h2]
      clear h1 h2
      by_cases hc : K.sp < k
      · have e5 : ¬ k ≤ K.sp := by omega
        have e6 : IntKind.i64.wrap (K.sp + 1) = K.sp + 1 := wrap_next hsp hk hc
        rw [show K.fail z k = ⟨3, K.sp + 1, z, K.tm⟩ by simp only [CN.fail, if_pos hs, if_pos hc, CN.why, if_neg he3], show K.fails k = true by simp only [CN.fails, hs, hc, and_self, decide_true]]
        clear hs hc hsp hk he3
        go_enter Try.func17, Try.ntmps17
        go_wp2_with fail
        rw [HW.out]
        refine HO.out.mono ?_
        rintro r V ⟨A', c', M', d', rfl, hbat, ⟨hfA, hfM⟩, bV⟩
        have K0v := Lib.hid (kb_below K0.out bV)
        have K1v := Lib.hid (kb_below K1.out bV)
        have BV := Lib.hid (B0.out.trans (bV.mono B0.out.size))
        have SV : Hid (w.heap.size + 2 ≤ V.heap.size) := Lib.hid (by have := bV.size; have := SZ.out; omega)
        have FA : Hid (Fresh (w.heap.size + 2) A') := Lib.hid (hfA.mono (by have := SZ.out; omega))
        have FM : Hid (Fresh (w.heap.size + 2) M') := Lib.hid (hfM.mono (by have := SZ.out; omega))
        have HB := Lib.hid hbat
        clear q0 q1 hbat hfA hfM bV HO HW K0 K1 B0
        go_wp2_with (first
          | (refine wpList_store_part rfl 34 _ _ rfl w.heap.size 0 36 (kvals A n c M m d K) [.slice A' n c', .slice M' m d'] rfl rfl ?hz (by show 0 + 2 ≤ 6; decide) sizeKB (onesKB _ _ _ _ _ _) ?_; (case hz => exact K0v.out); intro w5 k5 f5 _;
             have K5 : Hid (w5.heap[w.heap.size]? = some (kobj A' n c' M' m d' K)) := Lib.hid k5; have F5 := Lib.hid f5; have Z5 := Lib.hid ((f5.block (w.heap.size + 1) (heap_lt K1v.out) (by show ¬ w.heap.size + 1 = w.heap.size; omega)).trans K1v.out);
             have p2 : w5.cell? ⟨w.heap.size, 2, none⟩ = some (.int .i64 K.st) := vobj_cell K5.out rfl; have p3 : w5.cell? ⟨w.heap.size, 3, none⟩ = some (.int .i64 K.sp) := vobj_cell K5.out rfl; clear k5 f5)
          | (refine wpList_store_one rfl 3 _ _ rfl w.heap.size 4 36 (kvals A' n c' M' m d' K) (.int .i64 z) rfl rfl ?hz (by show 4 < 6; decide) size1i rfl rfl ?_; (case hz => exact K5.out); intro w6 k6 f6 _;
             have K6 : Hid (w6.heap[w.heap.size]? = some (kobj A' n c' M' m d' ⟨K.st, K.sp, z, K.tm⟩)) := Lib.hid k6; have F6 := Lib.hid f6; have Z6 := Lib.hid ((f6.block (w.heap.size + 1) (heap_lt Z5.out) (by show ¬ w.heap.size + 1 = w.heap.size; omega)).trans Z5.out);
             have p3 : w6.cell? ⟨w.heap.size, 3, none⟩ = some (.int .i64 K.sp) := vobj_cell K6.out rfl; clear k6 f6)
          | (refine wpList_store_one rfl 3 _ _ rfl w.heap.size 2 36 (kvals A' n c' M' m d' ⟨K.st, K.sp, z, K.tm⟩) (.int .i64 3) rfl rfl ?hz (by show 2 < 6; decide) size1i rfl rfl ?_; (case hz => exact K6.out); intro w7 k7 f7 _;
             have K7 : Hid (w7.heap[w.heap.size]? = some (kobj A' n c' M' m d' ⟨3, K.sp, z, K.tm⟩)) := Lib.hid k7; have F7 := Lib.hid f7; have Z7 := Lib.hid ((f7.block (w.heap.size + 1) (heap_lt Z6.out) (by show ¬ w.heap.size + 1 = w.heap.size; omega)).trans Z6.out);
             have p3 : w7.cell? ⟨w.heap.size, 3, none⟩ = some (.int .i64 K.sp) := vobj_cell K7.out rfl; clear k7 f7)
          | (refine wpList_store_one rfl 3 _ _ rfl w.heap.size 3 36 (kvals A' n c' M' m d' ⟨3, K.sp, z, K.tm⟩) (.int .i64 (K.sp + 1)) rfl rfl ?hz (by show 3 < 6; decide) size1i rfl rfl ?_; (case hz => exact K7.out); intro w8 k8 f8 _;
             have K8 : Hid (w8.heap[w.heap.size]? = some (kobj A' n c' M' m d' ⟨3, K.sp + 1, z, K.tm⟩)) := Lib.hid k8; have F8 := Lib.hid f8; have Z8 := Lib.hid ((f8.block (w.heap.size + 1) (heap_lt Z7.out) (by show ¬ w.heap.size + 1 = w.heap.size; omega)).trans Z7.out);
             clear k8 f8)
          | (refine wpList_load_agg rfl 36 _ rfl w.heap.size rfl (kvals A' n c' M' m d' ⟨3, K.sp + 1, z, K.tm⟩) ?hz _ HU.out rfl sizeK ?_; (case hz => exact K8.out))
          | (refine wpList_store_agg rfl 36 _ _ rfl (w.heap.size + 1) (kvals none 0 0 none 0 0 ⟨0, 0, 0, 0⟩) (kvals A' n c' M' m d' ⟨3, K.sp + 1, z, K.tm⟩) rfl rfl ?hz rfl sizeK (onesK _ _ _ _ _ _ _) ?_; (case hz => exact Z8.out); intro w9 k9 f9 _; have K9 := Lib.hid k9; have F9 := Lib.hid f9; clear k9 f9))
        refine bodyPost_ret (v := .tuple #[callV A' n c' M' m d' ⟨3, K.sp + 1, z, K.tm⟩, .bool true]) (results_agg1 Try.results17 rfl (loadK K9.out rfl) rfl) rfl ?_
        have fs : Frm (· = w.heap.size) V w8 := (((F5.out).trans F6.out (fun _ _ e => e)).trans F7.out (fun _ _ e => e)).trans F8.out (fun _ _ e => e)
        have hsv := SV.out
        have b1 : Bat w8 A' n c' M' m d' zs ms := HB.out.behind (FA.out.mono (by omega)) (FM.out.mono (by omega)) fs
        have b2 : Bat w9 A' n c' M' m d' zs ms := b1.behind (FA.out.mono (by omega)) (FM.out.mono (by omega)) F9.out
        have bl : Below w.heap.size w w9 := (BV.out.trans (fs.below BV.out.size (fun j hj e => by omega))).trans (F9.out.below (by have := fs.size; have := BV.out.size; omega) (fun j hj e => by omega))
        exact ⟨_, _, _, _, rfl, b2, ⟨FA.out.mono (by omega), FM.out.mono (by omega)⟩, bl⟩
      · have e5 : k ≤ K.sp := by omega
        rw [show K.fail z k = ⟨4, K.sp, z, K.tm⟩ by simp only [CN.fail, if_pos hs, if_neg hc, CN.why, if_neg he3], show K.fails k = false by simp only [CN.fails, hc, and_false, decide_false]]
        clear hs hc hsp hk he3
        go_enter Try.func17, Try.ntmps17
        go_wp2_with fail
        rw [HW.out]
        refine HO.out.mono ?_
        rintro r V ⟨A', c', M', d', rfl, hbat, ⟨hfA, hfM⟩, bV⟩
        have K0v := Lib.hid (kb_below K0.out bV)
        have K1v := Lib.hid (kb_below K1.out bV)
        have BV := Lib.hid (B0.out.trans (bV.mono B0.out.size))
        have SV : Hid (w.heap.size + 2 ≤ V.heap.size) := Lib.hid (by have := bV.size; have := SZ.out; omega)
        have FA : Hid (Fresh (w.heap.size + 2) A') := Lib.hid (hfA.mono (by have := SZ.out; omega))
        have FM : Hid (Fresh (w.heap.size + 2) M') := Lib.hid (hfM.mono (by have := SZ.out; omega))
        have HB := Lib.hid hbat
        clear q0 q1 hbat hfA hfM bV HO HW K0 K1 B0
        go_wp2_with (first
          | (refine wpList_store_part rfl 34 _ _ rfl w.heap.size 0 36 (kvals A n c M m d K) [.slice A' n c', .slice M' m d'] rfl rfl ?hz (by show 0 + 2 ≤ 6; decide) sizeKB (onesKB _ _ _ _ _ _) ?_; (case hz => exact K0v.out); intro w5 k5 f5 _;
             have K5 : Hid (w5.heap[w.heap.size]? = some (kobj A' n c' M' m d' K)) := Lib.hid k5; have F5 := Lib.hid f5; have Z5 := Lib.hid ((f5.block (w.heap.size + 1) (heap_lt K1v.out) (by show ¬ w.heap.size + 1 = w.heap.size; omega)).trans K1v.out);
             have p2 : w5.cell? ⟨w.heap.size, 2, none⟩ = some (.int .i64 K.st) := vobj_cell K5.out rfl; have p3 : w5.cell? ⟨w.heap.size, 3, none⟩ = some (.int .i64 K.sp) := vobj_cell K5.out rfl; clear k5 f5)
          | (refine wpList_store_one rfl 3 _ _ rfl w.heap.size 4 36 (kvals A' n c' M' m d' K) (.int .i64 z) rfl rfl ?hz (by show 4 < 6; decide) size1i rfl rfl ?_; (case hz => exact K5.out); intro w6 k6 f6 _;
             have K6 : Hid (w6.heap[w.heap.size]? = some (kobj A' n c' M' m d' ⟨K.st, K.sp, z, K.tm⟩)) := Lib.hid k6; have F6 := Lib.hid f6; have Z6 := Lib.hid ((f6.block (w.heap.size + 1) (heap_lt Z5.out) (by show ¬ w.heap.size + 1 = w.heap.size; omega)).trans Z5.out);
             have p3 : w6.cell? ⟨w.heap.size, 3, none⟩ = some (.int .i64 K.sp) := vobj_cell K6.out rfl; clear k6 f6)
          | (refine wpList_store_one rfl 3 _ _ rfl w.heap.size 2 36 (kvals A' n c' M' m d' ⟨K.st, K.sp, z, K.tm⟩) (.int .i64 4) rfl rfl ?hz (by show 2 < 6; decide) size1i rfl rfl ?_; (case hz => exact K6.out); intro w7 k7 f7 _;
             have K7 : Hid (w7.heap[w.heap.size]? = some (kobj A' n c' M' m d' ⟨4, K.sp, z, K.tm⟩)) := Lib.hid k7; have F7 := Lib.hid f7; have Z7 := Lib.hid ((f7.block (w.heap.size + 1) (heap_lt Z6.out) (by show ¬ w.heap.size + 1 = w.heap.size; omega)).trans Z6.out);
             have p3 : w7.cell? ⟨w.heap.size, 3, none⟩ = some (.int .i64 K.sp) := vobj_cell K7.out rfl; clear k7 f7)
          | (refine wpList_load_agg rfl 36 _ rfl w.heap.size rfl (kvals A' n c' M' m d' ⟨4, K.sp, z, K.tm⟩) ?hz _ HU.out rfl sizeK ?_; (case hz => exact K7.out))
          | (refine wpList_store_agg rfl 36 _ _ rfl (w.heap.size + 1) (kvals none 0 0 none 0 0 ⟨0, 0, 0, 0⟩) (kvals A' n c' M' m d' ⟨4, K.sp, z, K.tm⟩) rfl rfl ?hz rfl sizeK (onesK _ _ _ _ _ _ _) ?_; (case hz => exact Z7.out); intro w9 k9 f9 _; have K9 := Lib.hid k9; have F9 := Lib.hid f9; clear k9 f9))
        refine bodyPost_ret (v := .tuple #[callV A' n c' M' m d' ⟨4, K.sp, z, K.tm⟩, .bool false]) (results_agg1 Try.results17 rfl (loadK K9.out rfl) rfl) rfl ?_
        have fs : Frm (· = w.heap.size) V w7 := ((F5.out).trans F6.out (fun _ _ e => e)).trans F7.out (fun _ _ e => e)
        have hsv := SV.out
        have b1 : Bat w7 A' n c' M' m d' zs ms := HB.out.behind (FA.out.mono (by omega)) (FM.out.mono (by omega)) fs
        have b2 : Bat w9 A' n c' M' m d' zs ms := b1.behind (FA.out.mono (by omega)) (FM.out.mono (by omega)) F9.out
        have bl : Below w.heap.size w w9 := (BV.out.trans (fs.below BV.out.size (fun j hj e => by omega))).trans (F9.out.below (by have := fs.size; have := BV.out.size; omega) (fun j hj e => by omega))
        exact ⟨_, _, _, _, rfl, b2, ⟨FA.out.mono (by omega), FM.out.mono (by omega)⟩, bl⟩
    · have e2 : (K.st == 2) = false := by simp [h2]
      by_cases he3 : K.st = 3
      · have hs : 1 ≤ K.st ∧ K.st ≤ 3 := by omega
        have e3 : (K.st == 3) = true := by simp [he3]
        clear h1 h2
        by_cases hc : K.sp < k
        · have e5 : ¬ k ≤ K.sp := by omega
          have e6 : IntKind.i64.wrap (K.sp + 1) = K.sp + 1 := wrap_next hsp hk hc
          rw [show K.fail z k = ⟨3, K.sp + 1, K.ca, K.tm⟩ by simp only [CN.fail, if_pos hs, if_pos hc, CN.why, if_pos he3], show K.fails k = true by simp only [CN.fails, hs, hc, and_self, decide_true]]
          clear hs hc hsp hk he3
          go_enter Try.func17, Try.ntmps17
          go_wp2_with fail
          rw [HW.out]
          refine HO.out.mono ?_
          rintro r V ⟨A', c', M', d', rfl, hbat, ⟨hfA, hfM⟩, bV⟩
          have K0v := Lib.hid (kb_below K0.out bV)
          have K1v := Lib.hid (kb_below K1.out bV)
          have BV := Lib.hid (B0.out.trans (bV.mono B0.out.size))
          have SV : Hid (w.heap.size + 2 ≤ V.heap.size) := Lib.hid (by have := bV.size; have := SZ.out; omega)
          have FA : Hid (Fresh (w.heap.size + 2) A') := Lib.hid (hfA.mono (by have := SZ.out; omega))
          have FM : Hid (Fresh (w.heap.size + 2) M') := Lib.hid (hfM.mono (by have := SZ.out; omega))
          have HB := Lib.hid hbat
          clear q0 q1 hbat hfA hfM bV HO HW K0 K1 B0
          go_wp2_with (first
            | (refine wpList_store_part rfl 34 _ _ rfl w.heap.size 0 36 (kvals A n c M m d K) [.slice A' n c', .slice M' m d'] rfl rfl ?hz (by show 0 + 2 ≤ 6; decide) sizeKB (onesKB _ _ _ _ _ _) ?_; (case hz => exact K0v.out); intro w5 k5 f5 _;
               have K5 : Hid (w5.heap[w.heap.size]? = some (kobj A' n c' M' m d' K)) := Lib.hid k5; have F5 := Lib.hid f5; have Z5 := Lib.hid ((f5.block (w.heap.size + 1) (heap_lt K1v.out) (by show ¬ w.heap.size + 1 = w.heap.size; omega)).trans K1v.out);
               have p2 : w5.cell? ⟨w.heap.size, 2, none⟩ = some (.int .i64 K.st) := vobj_cell K5.out rfl; have p3 : w5.cell? ⟨w.heap.size, 3, none⟩ = some (.int .i64 K.sp) := vobj_cell K5.out rfl; clear k5 f5)
            | (refine wpList_store_one rfl 3 _ _ rfl w.heap.size 2 36 (kvals A' n c' M' m d' K) (.int .i64 3) rfl rfl ?hz (by show 2 < 6; decide) size1i rfl rfl ?_; (case hz => exact K5.out); intro w6 k6 f6 _;
               have K6 : Hid (w6.heap[w.heap.size]? = some (kobj A' n c' M' m d' ⟨3, K.sp, K.ca, K.tm⟩)) := Lib.hid k6; have F6 := Lib.hid f6; have Z6 := Lib.hid ((f6.block (w.heap.size + 1) (heap_lt Z5.out) (by show ¬ w.heap.size + 1 = w.heap.size; omega)).trans Z5.out);
               have p3 : w6.cell? ⟨w.heap.size, 3, none⟩ = some (.int .i64 K.sp) := vobj_cell K6.out rfl; clear k6 f6)
            | (refine wpList_store_one rfl 3 _ _ rfl w.heap.size 3 36 (kvals A' n c' M' m d' ⟨3, K.sp, K.ca, K.tm⟩) (.int .i64 (K.sp + 1)) rfl rfl ?hz (by show 3 < 6; decide) size1i rfl rfl ?_; (case hz => exact K6.out); intro w7 k7 f7 _;
               have K7 : Hid (w7.heap[w.heap.size]? = some (kobj A' n c' M' m d' ⟨3, K.sp + 1, K.ca, K.tm⟩)) := Lib.hid k7; have F7 := Lib.hid f7; have Z7 := Lib.hid ((f7.block (w.heap.size + 1) (heap_lt Z6.out) (by show ¬ w.heap.size + 1 = w.heap.size; omega)).trans Z6.out);
               clear k7 f7)
            | (refine wpList_load_agg rfl 36 _ rfl w.heap.size rfl (kvals A' n c' M' m d' ⟨3, K.sp + 1, K.ca, K.tm⟩) ?hz _ HU.out rfl sizeK ?_; (case hz => exact K7.out))
            | (refine wpList_store_agg rfl 36 _ _ rfl (w.heap.size + 1) (kvals none 0 0 none 0 0 ⟨0, 0, 0, 0⟩) (kvals A' n c' M' m d' ⟨3, K.sp + 1, K.ca, K.tm⟩) rfl rfl ?hz rfl sizeK (onesK _ _ _ _ _ _ _) ?_; (case hz => exact Z7.out); intro w9 k9 f9 _; have K9 := Lib.hid k9; have F9 := Lib.hid f9; clear k9 f9))
          refine bodyPost_ret (v := .tuple #[callV A' n c' M' m d' ⟨3, K.sp + 1, K.ca, K.tm⟩, .bool true]) (results_agg1 Try.results17 rfl (loadK K9.out rfl) rfl) rfl ?_
          have fs : Frm (· = w.heap.size) V w7 := ((F5.out).trans F6.out (fun _ _ e => e)).trans F7.out (fun _ _ e => e)
          have hsv := SV.out
          have b1 : Bat w7 A' n c' M' m d' zs ms := HB.out.behind (FA.out.mono (by omega)) (FM.out.mono (by omega)) fs
          have b2 : Bat w9 A' n c' M' m d' zs ms := b1.behind (FA.out.mono (by omega)) (FM.out.mono (by omega)) F9.out
          have bl : Below w.heap.size w w9 := (BV.out.trans (fs.below BV.out.size (fun j hj e => by omega))).trans (F9.out.below (by have := fs.size; have := BV.out.size; omega) (fun j hj e => by omega))
          exact ⟨_, _, _, _, rfl, b2, ⟨FA.out.mono (by omega), FM.out.mono (by omega)⟩, bl⟩
        · have e5 : k ≤ K.sp := by omega
          rw [show K.fail z k = ⟨4, K.sp, K.ca, K.tm⟩ by simp only [CN.fail, if_pos hs, if_neg hc, CN.why, if_pos he3], show K.fails k = false by simp only [CN.fails, hc, and_false, decide_false]]
          clear hs hc hsp hk he3
          go_enter Try.func17, Try.ntmps17
          go_wp2_with fail
          rw [HW.out]
          refine HO.out.mono ?_
          rintro r V ⟨A', c', M', d', rfl, hbat, ⟨hfA, hfM⟩, bV⟩
          have K0v := Lib.hid (kb_below K0.out bV)
          have K1v := Lib.hid (kb_below K1.out bV)
          have BV := Lib.hid (B0.out.trans (bV.mono B0.out.size))
          have SV : Hid (w.heap.size + 2 ≤ V.heap.size) := Lib.hid (by have := bV.size; have := SZ.out; omega)
          have FA : Hid (Fresh (w.heap.size + 2) A') := Lib.hid (hfA.mono (by have := SZ.out; omega))
          have FM : Hid (Fresh (w.heap.size + 2) M') := Lib.hid (hfM.mono (by have := SZ.out; omega))
          have HB := Lib.hid hbat
          clear q0 q1 hbat hfA hfM bV HO HW K0 K1 B0
          go_wp2_with (first
            | (refine wpList_store_part rfl 34 _ _ rfl w.heap.size 0 36 (kvals A n c M m d K) [.slice A' n c', .slice M' m d'] rfl rfl ?hz (by show 0 + 2 ≤ 6; decide) sizeKB (onesKB _ _ _ _ _ _) ?_; (case hz => exact K0v.out); intro w5 k5 f5 _;
               have K5 : Hid (w5.heap[w.heap.size]? = some (kobj A' n c' M' m d' K)) := Lib.hid k5; have F5 := Lib.hid f5; have Z5 := Lib.hid ((f5.block (w.heap.size + 1) (heap_lt K1v.out) (by show ¬ w.heap.size + 1 = w.heap.size; omega)).trans K1v.out);
               have p2 : w5.cell? ⟨w.heap.size, 2, none⟩ = some (.int .i64 K.st) := vobj_cell K5.out rfl; have p3 : w5.cell? ⟨w.heap.size, 3, none⟩ = some (.int .i64 K.sp) := vobj_cell K5.out rfl; clear k5 f5)
            | (refine wpList_store_one rfl 3 _ _ rfl w.heap.size 2 36 (kvals A' n c' M' m d' K) (.int .i64 4) rfl rfl ?hz (by show 2 < 6; decide) size1i rfl rfl ?_; (case hz => exact K5.out); intro w6 k6 f6 _;
               have K6 : Hid (w6.heap[w.heap.size]? = some (kobj A' n c' M' m d' ⟨4, K.sp, K.ca, K.tm⟩)) := Lib.hid k6; have F6 := Lib.hid f6; have Z6 := Lib.hid ((f6.block (w.heap.size + 1) (heap_lt Z5.out) (by show ¬ w.heap.size + 1 = w.heap.size; omega)).trans Z5.out);
               have p3 : w6.cell? ⟨w.heap.size, 3, none⟩ = some (.int .i64 K.sp) := vobj_cell K6.out rfl; clear k6 f6)
            | (refine wpList_load_agg rfl 36 _ rfl w.heap.size rfl (kvals A' n c' M' m d' ⟨4, K.sp, K.ca, K.tm⟩) ?hz _ HU.out rfl sizeK ?_; (case hz => exact K6.out))
            | (refine wpList_store_agg rfl 36 _ _ rfl (w.heap.size + 1) (kvals none 0 0 none 0 0 ⟨0, 0, 0, 0⟩) (kvals A' n c' M' m d' ⟨4, K.sp, K.ca, K.tm⟩) rfl rfl ?hz rfl sizeK (onesK _ _ _ _ _ _ _) ?_; (case hz => exact Z6.out); intro w9 k9 f9 _; have K9 := Lib.hid k9; have F9 := Lib.hid f9; clear k9 f9))
          refine bodyPost_ret (v := .tuple #[callV A' n c' M' m d' ⟨4, K.sp, K.ca, K.tm⟩, .bool false]) (results_agg1 Try.results17 rfl (loadK K9.out rfl) rfl) rfl ?_
          have fs : Frm (· = w.heap.size) V w6 := (F5.out).trans F6.out (fun _ _ e => e)
          have hsv := SV.out
          have b1 : Bat w6 A' n c' M' m d' zs ms := HB.out.behind (FA.out.mono (by omega)) (FM.out.mono (by omega)) fs
          have b2 : Bat w9 A' n c' M' m d' zs ms := b1.behind (FA.out.mono (by omega)) (FM.out.mono (by omega)) F9.out
          have bl : Below w.heap.size w w9 := (BV.out.trans (fs.below BV.out.size (fun j hj e => by omega))).trans (F9.out.below (by have := fs.size; have := BV.out.size; omega) (fun j hj e => by omega))
          exact ⟨_, _, _, _, rfl, b2, ⟨FA.out.mono (by omega), FM.out.mono (by omega)⟩, bl⟩
      · have hs : ¬ (1 ≤ K.st ∧ K.st ≤ 3) := by omega
        have e3 : (K.st == 3) = false := by simp [he3]
        rw [show K.fail z k = K by simp only [CN.fail, if_neg hs], show K.fails k = false by simp only [CN.fails, hs, false_and, decide_false]]
        clear h1 h2 he3 hs hsp hk
        go_enter Try.func17, Try.ntmps17
        go_wp2_with fail
        rw [HW.out]
        refine HO.out.mono ?_
        rintro r V ⟨A', c', M', d', rfl, hbat, ⟨hfA, hfM⟩, bV⟩
        have K0v := Lib.hid (kb_below K0.out bV)
        have K1v := Lib.hid (kb_below K1.out bV)
        have BV := Lib.hid (B0.out.trans (bV.mono B0.out.size))
        have SV : Hid (w.heap.size + 2 ≤ V.heap.size) := Lib.hid (by have := bV.size; have := SZ.out; omega)
        have FA : Hid (Fresh (w.heap.size + 2) A') := Lib.hid (hfA.mono (by have := SZ.out; omega))
        have FM : Hid (Fresh (w.heap.size + 2) M') := Lib.hid (hfM.mono (by have := SZ.out; omega))
        have HB := Lib.hid hbat
        clear q0 q1 hbat hfA hfM bV HO HW K0 K1 B0
        go_wp2_with (first
          | (refine wpList_store_part rfl 34 _ _ rfl w.heap.size 0 36 (kvals A n c M m d K) [.slice A' n c', .slice M' m d'] rfl rfl ?hz (by show 0 + 2 ≤ 6; decide) sizeKB (onesKB _ _ _ _ _ _) ?_; (case hz => exact K0v.out); intro w5 k5 f5 _;
             have K5 : Hid (w5.heap[w.heap.size]? = some (kobj A' n c' M' m d' K)) := Lib.hid k5; have F5 := Lib.hid f5; have Z5 := Lib.hid ((f5.block (w.heap.size + 1) (heap_lt K1v.out) (by show ¬ w.heap.size + 1 = w.heap.size; omega)).trans K1v.out);
             have p2 : w5.cell? ⟨w.heap.size, 2, none⟩ = some (.int .i64 K.st) := vobj_cell K5.out rfl; have p3 : w5.cell? ⟨w.heap.size, 3, none⟩ = some (.int .i64 K.sp) := vobj_cell K5.out rfl; clear k5 f5)
          | (refine wpList_load_agg rfl 36 _ rfl w.heap.size rfl (kvals A' n c' M' m d' K) ?hz _ HU.out rfl sizeK ?_; (case hz => exact K5.out))
          | (refine wpList_store_agg rfl 36 _ _ rfl (w.heap.size + 1) (kvals none 0 0 none 0 0 ⟨0, 0, 0, 0⟩) (kvals A' n c' M' m d' K) rfl rfl ?hz rfl sizeK (onesK _ _ _ _ _ _ _) ?_; (case hz => exact Z5.out); intro w9 k9 f9 _; have K9 := Lib.hid k9; have F9 := Lib.hid f9; clear k9 f9))
        refine bodyPost_ret (v := .tuple #[callV A' n c' M' m d' K, .bool false]) (results_agg1 Try.results17 rfl (loadK K9.out rfl) rfl) rfl ?_
        have fs : Frm (· = w.heap.size) V w5 := F5.out
        have hsv := SV.out
        have b1 : Bat w5 A' n c' M' m d' zs ms := HB.out.behind (FA.out.mono (by omega)) (FM.out.mono (by omega)) fs
        have b2 : Bat w9 A' n c' M' m d' zs ms := b1.behind (FA.out.mono (by omega)) (FM.out.mono (by omega)) F9.out
        have bl : Below w.heap.size w w9 := (BV.out.trans (fs.below BV.out.size (fun j hj e => by omega))).trans (F9.out.below (by have := fs.size; have := BV.out.size; omega) (fun j hj e => by omega))
        exact ⟨_, _, _, _, rfl, b2, ⟨FA.out.mono (by omega), FM.out.mono (by omega)⟩, bl⟩
end Go.Proofs.Ytpfmjocpgnoepaa
