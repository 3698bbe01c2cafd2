/- Contracts of package batch: One, Full, Lead, and what they lean on (slices.Index, slices.Clone, grown). -/
import Derived.Test.YtpfmjocpgnoepaaPairs
import Derived.Test.YtpfmjocpgnoepaaTail
import Derived.Test.YtpfmjocpgnoepaaAgg
import Derived.Deep.LoopGhost
import Derived.Deep.RegionHeld3
namespace Go.Proofs.Ytpfmjocpgnoepaa
set_option linter.unusedVariables false
open Go.ChangeShapes Go.WideShapes Go.ChangeAt Go.RowKit

theorem tI : SlT Try.prog irec 22 3 := slT_of (z := .int .i64 0) (n := 1) (by_ := 8) (by kernel_rfl) (by kernel_rfl) rfl (by decide) rfl
theorem tM : SlT Try.prog prec 32 105 := slT_of (z := .agg #[.int .i64 0, .int .i64 0]) (n := 2) (by_ := 16) (by kernel_rfl) (by kernel_rfl) rfl (by decide) rfl
theorem tP : SlT Try.prog prec 69 73 := slT_of (z := .agg #[.int .i64 0, .int .i64 0]) (n := 2) (by_ := 16) (by kernel_rfl) (by kernel_rfl) rfl (by decide) rfl
/-- A batch by value: its arguments, its members. -/
structure Bat (w : World) (A : Option Addr) (n c : Nat) (M : Option Addr) (m d : Nat) (zs : List Int) (ms : List P2) : Prop where
  ar : RowR irec w A n zs
  mr : RowR prec w M m ms
  nc : n ≤ c
  md : m ≤ d
  fits : ∀ x ∈ ms, x.Fits
abbrev batV (A : Option Addr) (n c : Nat) (M : Option Addr) (m d : Nat) : Value := .agg #[.slice A n c, .slice M m d]
section
variable {w w' : World} {A M : Option Addr} {n c m d : Nat} {zs : List Int} {ms : List P2}
theorem Bat.below (h : Bat w A n c M m d zs ms) (hb : Below w.heap.size w w') : Bat w' A n c M m d zs ms := ⟨h.ar.later hb, h.mr.later hb, h.nc, h.md, h.fits⟩
theorem Bat.alen (h : Bat w A n c M m d zs ms) : zs.length = n := h.ar.1
theorem Bat.mlen (h : Bat w A n c M m d zs ms) : ms.length = m := h.mr.1
end

/-- The block of a batch. -/
abbrev bobj (ty : TypeId) (A : Option Addr) (n c : Nat) (M : Option Addr) (m d : Nat) : Obj := .cells #[.slice A n c, .slice M m d] ty
theorem undB : ∃ fs, Try.prog.underlying 34 = some (.struct fs) := ⟨_, Try.underlying34⟩
theorem loadB {w : World} {g : Nat} {A M : Option Addr} {n c m d : Nat} (h : w.heap[g]? = some (bobj 34 A n c M m d)) : (loadVar 34 ⟨g, 0, none⟩).run Try.prog w = .ok (batV A n c M m d) w := by
  obtain ⟨fs, hu⟩ := undB
  exact run_load_agg w _ g [.slice A n c, .slice M m d] _ h hu rfl (by kernel_rfl)
theorem bobj_cells {w : World} {g : Nat} {ty : TypeId} {A M : Option Addr} {n c m d : Nat} (h : w.heap[g]? = some (bobj ty A n c M m d)) : w.cell? ⟨g, 0, none⟩ = some (.slice A n c) ∧ w.cell? ⟨g, 1, none⟩ = some (.slice M m d) :=
  ⟨by rw [cell_of h]; rfl, by rw [cell_of h]; rfl⟩
theorem take_more {α : Type} {V : List α} {j : Nat} {z : α} (h : V[j]? = some z) : V.take (j + 1) = V.take j ++ [z] := by
  obtain ⟨hlt, he⟩ := List.getElem?_eq_some_iff.1 h
  rw [List.take_succ_eq_append_getElem hlt, he]
theorem idxOf_at {zs : List Int} {x : Int} {j : Nat} (hno : x ∉ zs.take j) (hj : zs[j]? = some x) : zs.idxOf x = j := by
  obtain ⟨hlt, he⟩ := List.getElem?_eq_some_iff.1 hj
  have e : zs = zs.take j ++ zs.drop j := (List.take_append_drop j zs).symm
  rw [e, List.idxOf_append, if_neg hno, List.length_take, Nat.min_eq_left (Nat.le_of_lt hlt), List.drop_eq_getElem_cons hlt, he, List.idxOf_cons_self, Nat.zero_add]
/-- Where an argument stands; -1 without it. -/
def placeI (zs : List Int) (x : Int) : Int := if x ∈ zs then (zs.idxOf x : Int) else -1

set_option maxHeartbeats 1000000 in
theorem bindex_any (A : Option Addr) (n c : Nat) (x : Int) (zs : List Int) (w : World) (hr : RowR irec w A n zs) :
    Calls Try.prog 55 #[.slice A n c, .int .i64 x] w fun r w' => r = .returned (.int .i64 (placeI zs x)) ∧ w = w' := by
  have HR := Lib.hid hr
  have HL := Lib.hid hr.1
  have hm := hr.2.1
  unfold maxLen at hm
  clear hr
  go_enter Try.func55, Try.ntmps55
  go_wp2
  go_loopg [8] n (fun k v8 wr => ∃ j : Nat, j + k = n ∧ v8 = .int .i64 j ∧ x ∉ zs.take j ∧ wr = w)
  case atStart => exact ⟨0, by omega, rfl, by simp, rfl⟩
  case round =>
    obtain ⟨j, hj, rfl, hno, rfl⟩ := hrel
    have HJ := Lib.hid hj
    have NO := Lib.hid hno
    clear hj hno
    by_cases hlt : j < n
    · have hlt' : (j : Int) < n := by omega
      obtain ⟨b, off, z, rfl, hz, q0⟩ := HR.out.int_at hlt
      have HZ := Lib.hid hz
      clear hz
      by_cases hzx : x = z
      · have hzx' : (x == z) = true := by simp [hzx]
        have HZX := Lib.hid hzx
        clear hzx
        go_wp2
        go_ret
        have h1 : zs[j]? = some x := by rw [HZX.out]; exact HZ.out
        exact ⟨ret_int (by rw [placeI, if_pos (List.mem_of_getElem? h1), idxOf_at NO.out h1]), rfl⟩
      · have hzx' : (x == z) = false := by simp [hzx]
        have HZX := Lib.hid hzx
        clear hzx
        go_wp2
        go_roundg (n - (j + 1))
        case measure => have := HJ.out; omega
        case rel =>
          refine ⟨j + 1, by omega, by simp, ?_, rfl⟩
          rw [take_more HZ.out]
          intro hm
          rcases List.mem_append.1 hm with hm | hm
          · exact NO.out hm
          · simp at hm; exact HZX.out hm
    · have hlt' : ¬ (j : Int) < n := by omega
      go_wp2
      go_ret
      have := NO.out
      rw [List.take_of_length_le (by rw [HL.out]; omega)] at this
      exact ⟨ret_int (by rw [placeI, if_neg this]), rfl⟩

set_option maxHeartbeats 1000000 in
theorem cloneI_any (A : Option Addr) (n c : Nat) (zs : List Int) (w : World) (hr : RowR irec w A n zs) (hn : n ≤ 1000) :
    Calls Try.prog 56 #[.slice A n c] w fun r w' => ∃ A' c', r = .returned (.slice A' n c') ∧ RowR irec w' A' n zs ∧ n ≤ c' ∧ Fresh w.heap.size A' ∧ Below w.heap.size w w' := by
  cases A with
  | none =>
    have h0 : n = 0 := by
      rcases hr.2.2 with h | ⟨_, _, h, _⟩
      · exact h
      · cases h
    subst h0
    have HR := Lib.hid hr
    have hnil : ∀ w', (binOp .eql 22 (.slice none 0 c) (.slice none 0 0)).run Try.prog w' = .ok (.bool true) w' := run_isNil tI
    clear hr
    go_enter Try.func56, Try.ntmps56
    go_wp2
    go_ret
    exact ⟨none, 0, rfl, HR.out, Nat.le_refl _, Fresh.none _, Below.refl _ _⟩
  | some ad =>
    have HR := Lib.hid hr
    have HO : Hid (OwnR irec (w.alloc (.cells #[] 3)) w.heap.size 3 (.slice (some ⟨w.heap.size, 0, none⟩) 0 0) ([] : List Int)) := Lib.hid (OwnR.empty w _ (Nat.le_refl _))
    have HS := Lib.hid (hr.later (below_alloc w (.cells #[] 3)))
    have hnil : ∀ w', (binOp .eql 22 (.slice (some ad) n c) (.slice none 0 0)).run Try.prog w' = .ok (.bool false) w' := run_isNil tI
    clear hr
    go_enter Try.func56, Try.ntmps56
    go_wp2_with (first
      | (at_builtin; refine wpList_appS tI (base := w.heap.size) rfl (.tmp 5) (.tmp 6) rfl rfl rfl HO.out HS.out (by simp; omega) (by simp) ?_;
         intro v6 w6 own6 gr6 _; have b6 := Lib.hid ((below_alloc w _).trans (grown_low gr6 (by simp) HO.out.low));
         obtain ⟨A', n', c', hv6, r6, hn6, hc6, _⟩ := own6.row'; subst hv6; have R6 := Lib.hid r6; have N6 := Lib.hid own6.fresh; clear own6 gr6 r6))
    go_ret
    have hl := R6.out.1
    have hl2 := HR.out.1
    simp only [List.nil_append] at hl
    obtain rfl : n' = n := by omega
    exact ⟨A', c', rfl, R6.out, hc6, N6.out, b6.out⟩

set_option maxHeartbeats 1000000 in
theorem cloneM_any (A : Option Addr) (n c : Nat) (zs : List P2) (w : World) (hr : RowR prec w A n zs) (hn : n ≤ 1000) :
    Calls Try.prog 58 #[.slice A n c] w fun r w' => ∃ A' c', r = .returned (.slice A' n c') ∧ RowR prec w' A' n zs ∧ n ≤ c' ∧ Fresh w.heap.size A' ∧ Below w.heap.size w w' := by
  cases A with
  | none =>
    have h0 : n = 0 := by
      rcases hr.2.2 with h | ⟨_, _, h, _⟩
      · exact h
      · cases h
    subst h0
    have HR := Lib.hid hr
    have hnil : ∀ w', (binOp .eql 32 (.slice none 0 c) (.slice none 0 0)).run Try.prog w' = .ok (.bool true) w' := run_isNil tM
    clear hr
    go_enter Try.func58, Try.ntmps58
    go_wp2
    go_ret
    exact ⟨none, 0, rfl, HR.out, Nat.le_refl _, Fresh.none _, Below.refl _ _⟩
  | some ad =>
    have HR := Lib.hid hr
    have HO : Hid (OwnR prec (w.alloc (.cells #[] 105)) w.heap.size 105 (.slice (some ⟨w.heap.size, 0, none⟩) 0 0) ([] : List P2)) := Lib.hid (OwnR.empty w _ (Nat.le_refl _))
    have HS := Lib.hid (hr.later (below_alloc w (.cells #[] 105)))
    have hnil : ∀ w', (binOp .eql 32 (.slice (some ad) n c) (.slice none 0 0)).run Try.prog w' = .ok (.bool false) w' := run_isNil tM
    clear hr
    go_enter Try.func58, Try.ntmps58
    go_wp2_with (first
      | (at_builtin; refine wpList_appS tM (base := w.heap.size) rfl (.tmp 5) (.tmp 6) rfl rfl rfl HO.out HS.out (by simp; omega) (by simp) ?_;
         intro v6 w6 own6 gr6 _; have b6 := Lib.hid ((below_alloc w _).trans (grown_low gr6 (by simp) HO.out.low));
         obtain ⟨A', n', c', hv6, r6, hn6, hc6, _⟩ := own6.row'; subst hv6; have R6 := Lib.hid r6; have N6 := Lib.hid own6.fresh; clear own6 gr6 r6))
    go_ret
    have hl := R6.out.1
    have hl2 := HR.out.1
    simp only [List.nil_append] at hl
    obtain rfl : n' = n := by omega
    exact ⟨A', c', rfl, R6.out, hc6, N6.out, b6.out⟩

set_option maxHeartbeats 1000000 in
theorem grownI_any (A : Option Addr) (n c : Nat) (x : Int) (zs : List Int) (w : World) (hr : RowR irec w A n zs) (hc : n ≤ c) (hn : n ≤ 1000) :
    Calls Try.prog 59 #[.slice A n c, .int .i64 x] w fun r w' => ∃ A' c', r = .returned (.slice A' (n + 1) c') ∧ RowR irec w' A' (n + 1) (zs ++ [x]) ∧ n + 1 ≤ c' ∧ Fresh w.heap.size A' ∧ Below w.heap.size w w' := by
  obtain ⟨A1, hcut, r1⟩ := run_cut (k := .i64) (k' := .i64) tI hr hc
  have R1 := Lib.hid (r1.later (below_alloc w (.cells #[.int .i64 x] 3)))
  have S1 := Lib.hid (RowR.one (R := irec) w x 3 (cs := #[.int .i64 x]) rfl)
  clear hr r1
  go_enter Try.func59, Try.ntmps59
  go_wp2_with (first
    | (at_builtin; refine wpList_appC tI rfl (.tmp 10) (.tmp 12) rfl rfl rfl R1.out S1.out (by decide) (by omega) ?_;
       intro A6 c6 w6 r6 hc6 n6 b6; have R6 := Lib.hid r6; have N6 := Lib.hid (n6.mono (B' := w.heap.size) (by simp)); clear n6; have B6 := Lib.hid ((below_alloc w _).trans (b6.mono (by simp))); clear r6 b6))
  go_ret
  exact ⟨A6, c6, rfl, R6.out, hc6, N6.out, B6.out⟩

set_option maxHeartbeats 1000000 in
theorem grownM_any (A : Option Addr) (n c : Nat) (x : P2) (zs : List P2) (w : World) (hr : RowR prec w A n zs) (hc : n ≤ c) (hn : n ≤ 1000) :
    Calls Try.prog 57 #[.slice A n c, .agg #[.int .i64 x.a, .int .i64 x.b]] w fun r w' => ∃ A' c', r = .returned (.slice A' (n + 1) c') ∧ RowR prec w' A' (n + 1) (zs ++ [x]) ∧ n + 1 ≤ c' ∧ Fresh w.heap.size A' ∧ Below w.heap.size w w' := by
  obtain ⟨A1, hcut, r1⟩ := run_cut (k := .i64) (k' := .i64) tM hr hc
  have R1 := Lib.hid r1
  clear hr r1
  go_enter Try.func57, Try.ntmps57
  go_wp2
  generalize hwb : w.alloc (.cells #[.int .i64 x.a, .int .i64 x.b] 105) = wb
  have hb0 : Below w.heap.size w wb := by rw [← hwb]; exact below_alloc w _
  have h0 : wb.heap[w.heap.size]? = some (.cells #[.int .i64 x.a, .int .i64 x.b] 105) := by rw [← hwb]; exact heap_alloc_at w _
  clear hwb
  have hs : ∀ wx, Below wb.heap.size wb wx → wx.cell? ⟨w.heap.size, 0, none⟩ = some (.int .i64 x.a) ∧ wx.cell? ⟨w.heap.size, 1, none⟩ = some (.int .i64 x.b) := fun wx hb => ⟨by rw [cell_of (kb_below h0 hb)]; rfl, by rw [cell_of (kb_below h0 hb)]; rfl⟩
  have D0 : Hid (Below wb.heap.size wb wb.drew) := Lib.hid (ali_below (drew_ali _))
  have D1 : Hid (Below wb.heap.size wb (wb.drew.alloc (.cells #[.int .i64 x.a, .int .i64 x.b] 105))) := Lib.hid (D0.out.alloc D0.out.size _)
  have R2 := Lib.hid (R1.out.later (hb0.trans (D1.out.mono hb0.size)))
  have S2 := Lib.hid (RowR.one (R := prec) wb.drew x 105 (cs := #[.int .i64 x.a, .int .i64 x.b]) rfl)
  have HS := Lib.hid hs
  have B0 := Lib.hid hb0
  clear hs hb0 h0
  go_region_held3 (fun wx => wx.cell? ⟨w.heap.size, 0, none⟩ = some (.int .i64 x.a) ∧ wx.cell? ⟨w.heap.size, 1, none⟩ = some (.int .i64 x.b))
    (first
      | exact HS.out _ D0.out
      | exact HS.out _ D1.out
      | exact HS.out _ t6)
    (first
      | (refine appC_step tM rfl (.tmp 10) (.tmp 12) rfl rfl rfl R2.out S2.out (by decide) (by omega) ?_;
         intro A6 c6 w6 r6 hc6 n6 b6; have N6 := Lib.hid (n6.mono (Nat.le_trans B0.out.size D1.out.size)); clear n6; have t6 := D1.out.trans (b6.mono D1.out.size); have R6 := Lib.hid r6; clear r6 b6))
  have B6 := Lib.hid (B0.out.trans (t6.mono B0.out.size))
  clear t6
  go_wp2
  go_ret
  exact ⟨A6, c6, rfl, R6.out, hc6, N6.out, B6.out⟩

set_option maxHeartbeats 1000000 in
theorem bfull_any (A : Option Addr) (n c : Nat) (M : Option Addr) (m d : Nat) (most : Int) (w : World) :
    Calls Try.prog 38 #[batV A n c M m d, .int .i64 most] w fun r w' => r = .returned (.bool (decide (most ≤ (n : Int)))) ∧ Below w.heap.size w w' := by
  go_enter Try.func38, Try.ntmps38
  go_wp2
  go_ret
  exact ⟨rfl, below_alloc w _⟩

set_option maxHeartbeats 1000000 in
theorem bone_any (id x : Int) (hi : wf64 id) (w : World) :
    Calls Try.prog 35 #[.int .i64 id, .int .i64 x] w fun r w' => ∃ A c M d, r = .returned (batV A 1 c M 1 d) ∧ Bat w' A 1 c M 1 d [x] [⟨id, 0⟩] ∧ (Fresh w.heap.size A ∧ Fresh w.heap.size M) ∧ Below w.heap.size w w' := by
  go_enter Try.func35, Try.ntmps35
  go_wp2
  generalize hw1 : w.alloc (bobj 34 (some ⟨w.heap.size + 1, 0, none⟩) 1 1 (some ⟨w.heap.size + 1 + 1, 0, none⟩) 1 1) = w1
  have e1 : w1.heap.size = w.heap.size + 1 := by rw [← hw1]; simp
  have k1 : w1.heap[w.heap.size]? = some (bobj 34 (some ⟨w.heap.size + 1, 0, none⟩) 1 1 (some ⟨w.heap.size + 1 + 1, 0, none⟩) 1 1) := by rw [← hw1]; exact heap_alloc_at w _
  have b1 : Below w.heap.size w w1 := by rw [← hw1]; exact below_alloc w _
  clear hw1
  have r2 := RowR.one (R := irec) w1 x 3 (cs := #[.int .i64 x]) rfl
  have b2 := below_alloc w1 (.cells #[.int .i64 x] 3)
  have e2 : (w1.alloc (.cells #[.int .i64 x] 3)).heap.size = w1.heap.size + 1 := by simp
  generalize w1.alloc (.cells #[.int .i64 x] 3) = w2 at *
  have r3 := RowR.one (R := prec) w2 ⟨id, 0⟩ 105 (cs := #[.int .i64 id, .int .i64 0]) rfl
  have b3 := below_alloc w2 (.cells #[.int .i64 id, .int .i64 0] 105)
  generalize w2.alloc (.cells #[.int .i64 id, .int .i64 0] 105) = w3 at *
  rw [e2, e1] at r3
  rw [e1] at r2
  refine bodyPost_ret (v := batV (some ⟨w.heap.size + 1, 0, none⟩) 1 1 (some ⟨w.heap.size + 1 + 1, 0, none⟩) 1 1) (results_agg Try.results35 rfl (loadB (kb_below (kb_below k1 b2) b3))) rfl ?_
  refine ⟨_, _, _, _, rfl, ⟨r2.later b3, r3, Nat.le_refl _, Nat.le_refl _, ?_⟩, ⟨Fresh.at_ (by omega), Fresh.at_ (by omega)⟩, b1.trans ((b2.trans (b3.mono b2.size)).mono b1.size)⟩
  intro y hy
  rw [List.mem_singleton.1 hy]
  exact ⟨hi, wf64_lit (k := 0) (by decide) (by decide)⟩

def leadL (ms : List P2) : Int := (ms[0]?.map P2.a).getD 0
set_option maxHeartbeats 1000000 in
theorem blead_any (A : Option Addr) (n c : Nat) (M : Option Addr) (m d : Nat) (zs : List Int) (ms : List P2) (w : World) (h : Bat w A n c M m d zs ms) :
    Calls Try.prog 39 #[batV A n c M m d] w fun r w' => r = .returned (.int .i64 (leadL ms)) ∧ Below w.heap.size w w' := by
  have HL := Lib.hid h.mlen
  by_cases hm : m = 0
  · have hm' : ((m : Int) == 0) = true := by simp [hm]
    clear h
    go_enter Try.func39, Try.ntmps39
    go_wp2
    go_ret
    refine ⟨ret_int ?_, below_alloc w _⟩
    have : ms = [] := List.eq_nil_of_length_eq_zero (by rw [HL.out, hm])
    subst this
    rfl
  · have hm' : ((m : Int) == 0) = false := by simp [hm]
    have hm2 : (0 : Int) < m := by omega
    obtain ⟨b, off, x, rfl, hx, c0, _⟩ := h.mr.pair_at (i := 0) (by omega)
    have c0' : (w.alloc (.cells #[.slice A n c, .slice (some ⟨b, off, none⟩) m d] 34)).cell? ⟨b, off, none⟩ = some (.int .i64 x.a) := cell_alloc (by simpa using c0) _
    have HX := Lib.hid hx
    clear h hx c0 hm
    go_enter Try.func39, Try.ntmps39
    go_wp2
    go_ret
    refine ⟨ret_int ?_, below_alloc w _⟩
    simp [leadL, HX.out]
end Go.Proofs.Ytpfmjocpgnoepaa
