/- Layer 13: the document's batch: One, Lead, at, few, Same. Written by wip/tools/gen_ref13.py. -/
import Derived.Test.YtpfmjocpgnoepaaRef13
namespace Go.Proofs.Ytpfmjocpgnoepaa
set_option linter.unusedVariables false
open Go.ChangeShapes Go.WideShapes Go.ChangeAt Go.RowKit

set_option maxHeartbeats 1000000 in
theorem rone_any (id x : Int) (hi : wf64 id) (w : World) :
    Calls Try.prog 41 #[.int .i64 id, .int .i64 x] w fun r w' => ∃ A c M d, r = .returned (batV A 1 c M 1 d) ∧ Bat w' A 1 c M 1 d [x] [⟨id, 0⟩] ∧ (Fresh w.heap.size A ∧ Fresh w.heap.size M) ∧ Below w.heap.size w w' := by
  go_enter Try.func41, Try.ntmps41
  go_wp2
  generalize hw1 : w.alloc (bobj 25 (some ⟨w.heap.size + 1, 0, none⟩) 1 1 (some ⟨w.heap.size + 1 + 1, 0, none⟩) 1 1) = w1
  have e1 : w1.heap.size = w.heap.size + 1 := by rw [← hw1]; simp
  have k1 : w1.heap[w.heap.size]? = some (bobj 25 (some ⟨w.heap.size + 1, 0, none⟩) 1 1 (some ⟨w.heap.size + 1 + 1, 0, none⟩) 1 1) := by rw [← hw1]; exact heap_alloc_at w _
  have b1 : Below w.heap.size w w1 := by rw [← hw1]; exact below_alloc w _
  clear hw1
  have r2 := RowR.one (R := irec) w1 x 3 (cs := #[.int .i64 x]) rfl
  have b2 := below_alloc w1 (.cells #[.int .i64 x] 3)
  have e2 : (w1.alloc (.cells #[.int .i64 x] 3)).heap.size = w1.heap.size + 1 := by simp
  generalize w1.alloc (.cells #[.int .i64 x] 3) = w2 at *
  have r3 := RowR.one (R := prec) w2 ⟨id, 0⟩ 61 (cs := #[.int .i64 id, .int .i64 0]) rfl
  have b3 := below_alloc w2 (.cells #[.int .i64 id, .int .i64 0] 61)
  generalize w2.alloc (.cells #[.int .i64 id, .int .i64 0] 61) = w3 at *
  rw [e2, e1] at r3
  rw [e1] at r2
  refine bodyPost_ret (v := batV (some ⟨w.heap.size + 1, 0, none⟩) 1 1 (some ⟨w.heap.size + 1 + 1, 0, none⟩) 1 1) (results_agg Try.results41 rfl (loadR (kb_below (kb_below k1 b2) b3))) rfl ?_
  refine ⟨_, _, _, _, rfl, ⟨r2.later b3, r3, Nat.le_refl _, Nat.le_refl _, ?_⟩, ⟨Fresh.at_ (by omega), Fresh.at_ (by omega)⟩, b1.trans ((b2.trans (b3.mono b2.size)).mono b1.size)⟩
  intro y hy
  rw [List.mem_singleton.1 hy]
  exact ⟨hi, wf64_lit (k := 0) (by decide) (by decide)⟩
set_option maxHeartbeats 1000000 in
theorem rlead_any (A : Option Addr) (n c : Nat) (M : Option Addr) (m d : Nat) (zs : List Int) (ms : List P2) (w : World) (h : Bat w A n c M m d zs ms) :
    Calls Try.prog 40 #[batV A n c M m d] w fun r w' => r = .returned (.int .i64 (leadL ms)) ∧ Below w.heap.size w w' := by
  have HL := Lib.hid h.mlen
  by_cases hm : m = 0
  · have hm' : ((m : Int) == 0) = true := by simp [hm]
    clear h
    go_enter Try.func40, Try.ntmps40
    go_wp2
    go_ret
    refine ⟨ret_int ?_, below_alloc w _⟩
    have : ms = [] := List.eq_nil_of_length_eq_zero (by rw [HL.out, hm])
    subst this
    rfl
  · have hm' : ((m : Int) == 0) = false := by simp [hm]
    have hm2 : (0 : Int) < m := by omega
    obtain ⟨b, off, x, rfl, hx, c0, _⟩ := h.mr.pair_at (i := 0) (by omega)
    have c0' : (w.alloc (.cells #[.slice A n c, .slice (some ⟨b, off, none⟩) m d] 25)).cell? ⟨b, off, none⟩ = some (.int .i64 x.a) := cell_alloc (by simpa using c0) _
    have HX := Lib.hid hx
    clear h hx c0 hm
    go_enter Try.func40, Try.ntmps40
    go_wp2
    go_ret
    refine ⟨ret_int ?_, below_alloc w _⟩
    simp [leadL, HX.out]
set_option maxHeartbeats 1000000 in
theorem few_any (A : Option Addr) (n c : Nat) (M : Option Addr) (m d : Nat) (w : World) :
    Calls Try.prog 30 #[batV A n c M m d] w fun r w' => r = .returned (.bool (decide (n ≤ 50 ∧ m ≤ 50))) ∧ Below w.heap.size w w' := by
  by_cases hn : n ≤ 50
  · have hn1 : (n : Int) ≤ 50 := by omega
    have hn2 : decide (n ≤ 50 ∧ m ≤ 50) = decide ((m : Int) ≤ 50) := by simp [hn]; omega
    rw [hn2]
    clear hn2
    go_enter Try.func30, Try.ntmps30
    go_wp2
    go_ret
    exact ⟨rfl, below_alloc w _⟩
  · have hn1 : ¬ (n : Int) ≤ 50 := by omega
    have hn2 : decide (n ≤ 50 ∧ m ≤ 50) = false := by simp [hn]
    rw [hn2]
    clear hn2
    go_enter Try.func30, Try.ntmps30
    go_wp2
    go_ret
    exact ⟨rfl, below_alloc w _⟩
set_option maxHeartbeats 1000000 in
theorem rat_any (A : Option Addr) (n c : Nat) (x : Int) (zs : List Int) (w : World) (hr : RowR irec w A n zs) :
    Calls Try.prog 60 #[.slice A n c, .int .i64 x] w fun r w' => r = .returned (.int .i64 (zs.idxOf x : Int)) ∧ w = w' := by
  have HR := Lib.hid hr
  have HL := Lib.hid hr.1
  have hm := hr.2.1
  unfold maxLen at hm
  clear hr
  go_enter Try.func60, Try.ntmps60
  go_wp2
  go_loopg [5] n (fun k v8 wr => ∃ j : Nat, j + k = n ∧ v8 = .int .i64 j ∧ x ∉ zs.take j ∧ wr = w)
  case atStart => exact ⟨0, by omega, rfl, by simp, rfl⟩
  case round =>
    obtain ⟨j, hj, rfl, hno, rfl⟩ := hrel
    have HJ := Lib.hid hj
    have NO := Lib.hid hno
    clear hj hno
    by_cases hlt : j < n
    · have hlt' : (j : Int) < n := by omega
      obtain ⟨b, off, z, rfl, hz, q0⟩ := HR.out.int_at hlt
      have HZ := Lib.hid hz
      clear hz
      by_cases hzx : x = z
      · have hzx' : (z == x) = true := by simp [hzx]
        have HZX := Lib.hid hzx
        clear hzx
        go_wp2
        go_ret
        have h1 : zs[j]? = some x := by rw [HZX.out]; exact HZ.out
        exact ⟨ret_int (by rw [idxOf_at NO.out h1]), rfl⟩
      · have hzx' : (z == x) = false := by simp [Ne.symm hzx]
        have HZX := Lib.hid hzx
        clear hzx
        go_wp2
        go_roundg (n - (j + 1))
        case measure => have := HJ.out; omega
        case rel =>
          refine ⟨j + 1, by omega, by simp, ?_, rfl⟩
          rw [take_more HZ.out]
          intro hm
          rcases List.mem_append.1 hm with hm | hm
          · exact NO.out hm
          · simp at hm; exact HZX.out hm
    · have hlt' : ¬ (j : Int) < n := by omega
      go_wp2
      go_ret
      have := NO.out
      rw [List.take_of_length_le (by rw [HL.out]; omega)] at this
      exact ⟨ret_int (by rw [List.idxOf_eq_length this, HL.out]), rfl⟩
set_option maxRecDepth 100000 in
set_option maxHeartbeats 2000000 in
theorem rsame_any (A : Option Addr) (n c : Nat) (M : Option Addr) (m d : Nat) (A' : Option Addr) (c' : Nat) (M' : Option Addr) (d' : Nat) (zs : List Int) (ms : List P2) (w : World) (h : Bat w A n c M m d zs ms) (h' : Bat w A' n c' M' m d' zs ms) :
    Calls Try.prog 36 #[batV A n c M m d, batV A' n c' M' m d'] w fun r w' => r = .returned (.bool true) ∧ Below w.heap.size w w' := by
  obtain ⟨W, hW, bW, k1, k2, sW⟩ := two_new w (bobj 25 A n c M m d) (bobj 25 A' n c' M' m d')
  have HW := Lib.hid hW
  have BW := Lib.hid bW
  have K1 := Lib.hid k1
  have K2 := Lib.hid k2
  have HB := Lib.hid (h.below bW)
  have HB' := Lib.hid (h'.below bW)
  have hn1 := h.ar.2.1
  have hm1 := h.mr.2.1
  unfold maxLen at hn1 hm1
  obtain ⟨x0, x1⟩ := bobj_cells k1
  obtain ⟨y0, y1⟩ := bobj_cells k2
  clear bW k1 k2 sW h h'
  go_enter Try.func36, Try.ntmps36
  go_wp2
  clear hW HW x0 x1 y0 y1
  go_loopg [5] n (fun k v5 wr => ∃ j : Nat, j + k = n ∧ v5 = .int .i64 j ∧ Below W.heap.size W wr)
  case atStart => exact ⟨0, by omega, rfl, Below.refl _ _⟩
  case round =>
    obtain ⟨j, hj, rfl, hl⟩ := hrel
    have G := Lib.hid hj
    have L := Lib.hid hl
    clear hj hl
    obtain ⟨x0, x1⟩ := bobj_cells (kb_below K1.out L.out)
    obtain ⟨y0, y1⟩ := bobj_cells (kb_below K2.out L.out)
    by_cases hjn : j < n
    · have hj1 : (j : Int) < n := by omega
      obtain ⟨b, o, z, rfl, hz, q0⟩ := (HB.out.below L.out).ar.int_at hjn
      obtain ⟨b', o', z', rfl, hz', q1⟩ := (HB'.out.below L.out).ar.int_at hjn
      obtain rfl : z' = z := Option.some.inj (hz'.symm.trans hz)
      have LX : ∀ p : Later wr, p.v.cell? ⟨w.heap.size, 0, none⟩ = some (.slice (some ⟨b, o, none⟩) n c) := fun p => p.cell x0
      have LY : ∀ p : Later wr, p.v.cell? ⟨w.heap.size + 1, 0, none⟩ = some (.slice (some ⟨b', o', none⟩) n c') := fun p => p.cell y0
      have L0 : ∀ p : Later wr, p.v.cell? ⟨b, o + j, none⟩ = some (.int .i64 z') := fun p => p.cell q0
      have L1 : ∀ p : Later wr, p.v.cell? ⟨b', o' + j, none⟩ = some (.int .i64 z') := fun p => p.cell q1
      clear hz hz' q0 q1 x1 y0 y1
      go_wp2
      clear x0
      refine wp_region_later (by kernel_rfl) (by kernel_rfl) ?_
      repeat go_big_quiet_step (fail)
      refine wpQuiet_nil ?_
      rintro w10 ⟨⟨_, b10⟩, rfl⟩
      have L10 := Lib.hid (L.out.trans (b10.mono L.out.size))
      clear b10 LX LY L0 L1
      go_wp2
      go_roundg (n - (j + 1))
      case measure => have := G.out; omega
      case rel => exact ⟨j + 1, by omega, by simp, L10.out⟩
    · have hj1 : ¬ (j : Int) < n := by omega
      have B5 := Lib.hid (BW.out.trans (L.out.mono BW.out.size))
      clear x1 y0 y1
      go_wp2
      clear x0
      go_loopg [6] m (fun k v6 wq => ∃ i : Nat, i + k = m ∧ v6 = .int .i64 i ∧ Below W.heap.size W wq)
      case atStart => exact ⟨0, by omega, rfl, L.out⟩
      case round =>
        obtain ⟨i, hi, rfl, hl⟩ := hrel
        have G := Lib.hid hi
        have L2 := Lib.hid hl
        clear hi hl
        obtain ⟨x0, x1⟩ := bobj_cells (kb_below K1.out L2.out)
        obtain ⟨y0, y1⟩ := bobj_cells (kb_below K2.out L2.out)
        by_cases him : i < m
        · have hi1 : (i : Int) < m := by omega
          obtain ⟨b, o, z, rfl, hz, q0, q2⟩ := (HB.out.below L2.out).mr.pair_at him
          obtain ⟨b', o', z', rfl, hz', q1, q3⟩ := (HB'.out.below L2.out).mr.pair_at him
          obtain rfl : z' = z := Option.some.inj (hz'.symm.trans hz)
          have hzf := HB.out.fits _ (List.mem_of_getElem? hz)
          have hflat : Flat [.int .i64, .int .i64] (#[Value.int .i64 z'.a, .int .i64 z'.b]).toList := ⟨⟨_, rfl, hzf.1.lit⟩, ⟨_, rfl, hzf.2.lit⟩, trivial⟩
          have hsame : ∀ wx, (Op.equalIn 10000 61 (.agg #[.int .i64 z'.a, .int .i64 z'.b]) (.agg #[.int .i64 z'.a, .int .i64 z'.b])).run Try.prog wx = .ok true wx := fun wx =>
            same_yes (P := Try.prog) (t := 61) 8 (by decide) (by kernel_rfl) (by kernel_rfl) (by kernel_rfl) (by kernel_rfl) hflat wx
          have LX : ∀ p : Later wr, p.v.cell? ⟨w.heap.size, 1, none⟩ = some (.slice (some ⟨b, o, none⟩) m d) := fun p => p.cell x1
          have LY : ∀ p : Later wr, p.v.cell? ⟨w.heap.size + 1, 1, none⟩ = some (.slice (some ⟨b', o', none⟩) m d') := fun p => p.cell y1
          have L0 : ∀ p : Later wr, p.v.cell? ⟨b, o + i * 2, none⟩ = some (.int .i64 z'.a) := fun p => p.cell q0
          have L1 : ∀ p : Later wr, p.v.cell? ⟨b', o' + i * 2, none⟩ = some (.int .i64 z'.a) := fun p => p.cell q1
          have L02 : ∀ p : Later wr, p.v.cell? ⟨b, o + i * 2 + 1, none⟩ = some (.int .i64 z'.b) := fun p => p.cell q2
          have L12 : ∀ p : Later wr, p.v.cell? ⟨b', o' + i * 2 + 1, none⟩ = some (.int .i64 z'.b) := fun p => p.cell q3
          clear hz hz' q0 q1 q2 q3 x0 y0 y1 hflat hzf
          go_wp2
          clear x1
          refine wp_region_later (by kernel_rfl) (by kernel_rfl) ?_
          repeat go_big_quiet_step (fail)
          refine wpQuiet_nil ?_
          rintro w10 ⟨⟨_, b10⟩, rfl⟩
          have L10 := Lib.hid (L2.out.trans (b10.mono L2.out.size))
          clear b10 LX LY L0 L1 L02 L12
          go_wp2
          go_roundg (m - (i + 1))
          case measure => have := G.out; omega
          case rel => exact ⟨i + 1, by omega, by simp, L10.out⟩
        · have hi1 : ¬ (i : Int) < m := by omega
          go_wp2
          go_ret
          exact ⟨rfl, BW.out.trans (L2.out.mono BW.out.size)⟩
end Go.Proofs.Ytpfmjocpgnoepaa
