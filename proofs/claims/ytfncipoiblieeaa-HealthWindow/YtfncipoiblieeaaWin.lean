/- Contracts of package window: New, place, reach. -/
import Derived.Test.YtfncipoiblieeaaCells
import Derived.Test.YtfncipoiblieeaaWinMath
import Derived.Deep.LoopGhost
import Derived.Deep.RegionLaw
import Derived.Test.YtfncipoiblieeaaTail
namespace Go.Proofs.Ytfncipoiblieeaa
set_option linter.unusedVariables false
open Go.ChangeShapes Go.WideShapes Go.ChangeAt Go.RowKit

/-- A window's block: buckets, their width, the last one, the counts. -/
abbrev wobj (B W t : Int) (Z : List Int) : Obj := hobj .u64 63 [.int .u64 B, .int .u64 W, .int .u64 t] Z
theorem wobj_cells {w : World} {b : Nat} {B W t : Int} {Z : List Int} (h : w.heap[b]? = some (wobj B W t Z)) : w.cell? ⟨b, 0, none⟩ = some (.int .u64 B) ∧ w.cell? ⟨b, 1, none⟩ = some (.int .u64 W) ∧ w.cell? ⟨b, 2, none⟩ = some (.int .u64 t) := ⟨by rw [cell_of h]; rfl, by rw [cell_of h]; rfl, by rw [cell_of h]; rfl⟩
theorem wobj_cell {w : World} {b : Nat} {B W t : Int} {Z : List Int} (h : w.heap[b]? = some (wobj B W t Z)) {j : Nat} {z : Int} (hz : Z[j]? = some z) : w.cell? ⟨b, 3 + j, none⟩ = some (.int .u64 z) := hobj_cell h hz
theorem wobj_set {w : World} {b : Nat} {B W t : Int} {Z : List Int} (h : w.heap[b]? = some (wobj B W t Z)) (j : Nat) (z : Int) : (w.setCell ⟨b, 3 + j, none⟩ (.int .u64 z)).heap[b]? = some (wobj B W t (Z.set j z)) := by
  have := heap_set_same (o := 3 + j) h (.int .u64 z)
  rwa [show (3 + j : Nat) = [Value.int .u64 B, .int .u64 W, .int .u64 t].length + j from rfl, hobj_set] at this
theorem wobj_last {w : World} {b : Nat} {B W t : Int} {Z : List Int} (h : w.heap[b]? = some (wobj B W t Z)) (z : Int) : (w.setCell ⟨b, 2, none⟩ (.int .u64 z)).heap[b]? = some (wobj B W z Z) := heap_set_same (o := 2) h (.int .u64 z)
theorem wobj_puts {w : World} {b : Nat} {B W t : Int} {Z : List Int} (h : w.heap[b]? = some (wobj B W t Z)) (o : Nat) (vs : List Int) : (w.setCells b (3 + o) (vs.map (Value.int .u64))).heap[b]? = some (wobj B W t (put Z o vs)) := heap_setCells vs o Z w h
theorem wobj_there {w : World} {b : Nat} {B W t : Int} {Z : List Int} (h : w.heap[b]? = some (wobj B W t Z)) (hl : Z.length = 40) (j : Nat) (hj : j < 40) : (w.cell? ⟨b, 3 + j, none⟩).isSome = true := by
  rw [wobj_cell h (List.getElem?_eq_getElem (by omega : j < Z.length))]; rfl

/-- A window in block b: B buckets of W ticks, the last one t, what was counted in each. -/
structure Win (w : World) (b B W t : Nat) (F : Cnt) : Prop where
  blk : ∃ Z : List Int, w.heap[b]? = some (wobj B W t Z) ∧ Lay B t F Z
  B1 : 1 ≤ B
  B8 : B ≤ 8
  W1 : 1 ≤ W
  Wm : W ≤ 1099511627776
  tm : t ≤ 18446744073709551615
section
variable {w w' : World} {b B W t : Nat} {F : Cnt}
theorem Win.keep (h : Win w b B W t F) (hk : w'.heap[b]? = w.heap[b]?) : Win w' b B W t F := by
  obtain ⟨Z, h1, h2⟩ := h.blk
  exact ⟨⟨Z, hk.trans h1, h2⟩, h.B1, h.B8, h.W1, h.Wm, h.tm⟩
theorem Win.lt (h : Win w b B W t F) : b < w.heap.size := by obtain ⟨Z, h1, _⟩ := h.blk; exact heap_lt h1
theorem Win.below (h : Win w b B W t F) (hb : Below w.heap.size w w') : Win w' b B W t F := h.keep (hb.block b h.lt)
theorem Win.ali (h : Win w b B W t F) (ha : Ali w w') : Win w' b B W t F := h.keep (by rw [ha.heap])
theorem Win.frm {G : Nat → Prop} (h : Win w b B W t F) (hf : Frm G w w') (hn : ¬ G b) : Win w' b B W t F := h.keep (hf.block b h.lt hn)
/-- A block of another kind is another one. -/
theorem Win.other (h : Win w b B W t F) {j : Nat} {cs : Array Value} {ty : TypeId} {f : Nat × Nat} (hj : w.heap[j]? = some (.cells cs ty f)) (ht : ty ≠ 63) : j ≠ b := by
  obtain ⟨Z, h1, _⟩ := h.blk
  rintro rfl
  rw [h1] at hj
  injection hj with hj
  injection hj with _ hj
  exact ht hj.symm
theorem Win.kept (h : Win w b B W t F) (hf : Frm (· = b) w w') {j : Nat} {cs : Array Value} {ty : TypeId} {f : Nat × Nat} (hj : w.heap[j]? = some (.cells cs ty f)) (ht : ty ≠ 63) : w'.heap[j]? = some (.cells cs ty f) := by
  rw [hf.block j (heap_lt hj) (h.other hj ht)]; exact hj
end

theorem wpList_build {P : Program} {w : World} {ops : Array Oper} {rest : List Oper} {o : Oper} {a : Act} {Q : Exit → Act → World → Prop} (hg : o.guard = none) (t : TypeId) (parts : Array (Nat × Operand)) (hop : o.op = .build t parts)
    (v : Value) (hrun : (Instr.build t (parts.map fun (i, x) => (i, a.eval x))).run P w = .ok v w) (h : wpList P ops Q rest (a.put o.dst v) w) : wpList P ops Q (o :: rest) a w := by
  refine wpList_plain hg fun K' hK' => ?_
  unfold Oper.wp
  simp [execOp, hop, hrun, Result.andThen]
  exact hK' _ _ h

def winCells (B W : Int) : Array Value := ⟨.int .u64 B :: .int .u64 W :: .int .u64 0 :: (List.replicate 40 (0 : Int)).map (Value.int .u64)⟩
theorem win_build (B W : Int) (w : World) :
    (Instr.build 63 #[(0, .int .u64 B), (1, .int .u64 W)]).run Try.prog w = .ok (.agg (winCells B W)) w := by kernel_rfl

theorem new_win (B W : Nat) (w : World) (h1 : 1 ≤ B) (h8 : B ≤ 8) (hW : 1 ≤ W) (hW' : W ≤ 1099511627776) :
    Calls Try.prog 21 #[.int .i64 B, .int .u64 W] w fun r w' => r = .returned (.pointer (some ⟨w.heap.size, 0, none⟩)) ∧ Win w' w.heap.size B W 0 (fun _ _ => 0) ∧ Below w.heap.size w w' := by
  have e1 : ¬ (B : Int) < 1 := by omega
  have e2 : ¬ (8 : Int) < (B : Int) := by omega
  have e3 : ¬ (W : Int) < 1 := by omega
  have e4 : ¬ (1099511627776 : Int) < (W : Int) := by omega
  have hr : Win (w.alloc (.cells (winCells B W) 63)) w.heap.size B W 0 (fun _ _ => 0) := ⟨⟨List.replicate 40 0, heap_alloc_at w _, Lay.new B 0 h1 h8⟩, h1, h8, hW, hW', by omega⟩
  have HR := Lib.hid hr
  have HB := Lib.hid (below_alloc w (.cells (winCells B W) 63))
  clear hr
  go_enter Try.func21, Try.ntmps21
  go_wp2_with (refine wpList_build rfl 63 _ rfl (.agg (winCells B W)) ?hb ?_; (case hb => kernel_rfl))
  go_ret
  exact ⟨rfl, HR.out, HB.out⟩

theorem place_any (b n B : Nat) (w : World) (hc : w.cell? ⟨b, 0, none⟩ = some (.int .u64 B)) (h1 : 1 ≤ B) :
    Calls Try.prog 31 #[.pointer (some ⟨b, 0, none⟩), .int .u64 n] w fun r w' => r = .returned (.int .u64 ((n % B : Nat) : Int)) ∧ w' = w := by
  have hne : ((B : Int) == 0) = false := by simp; omega
  go_enter Try.func31, Try.ntmps31
  go_wp2
  go_ret
  refine ⟨ret_int ?_, rfl⟩
  exact (Int.natCast_emod n B).symm

theorem Clr.step {B t i p : Nat} {Z Z' : List Int} (h : Clr B t i Z Z') (hp : (t - i) % B = p) (hp8 : p < 8) : Clr B t (i + 1) Z (put Z' (p * 5) (List.replicate 5 0)) := by
  have hl := h.1
  refine ⟨by rw [put_len]; exact hl, fun p' k h1 h2 => ?_⟩
  by_cases he : p' = p
  · subst he
    have e : (put Z' (p' * 5) (List.replicate 5 0))[5 * p' + k]? = some 0 := by
      rw [show 5 * p' + k = p' * 5 + k by omega, put_in _ _ _ _ (by simpa using h2) (by omega), List.getElem?_replicate, if_pos h2]
    exact ⟨fun _ => e, fun hno => absurd hp (hno i (by omega))⟩
  · have e : (put Z' (p * 5) (List.replicate 5 0))[5 * p' + k]? = Z'[5 * p' + k]? := put_out _ _ _ _ (by simp; omega)
    rw [e]
    refine ⟨fun ⟨j, hj, hj'⟩ => (h.2 p' k h1 h2).1 ⟨j, ?_, hj'⟩, fun hno => (h.2 p' k h1 h2).2 (fun j hj => hno j (by omega))⟩
    by_cases hji : j = i
    · subst hji; exact absurd (hj'.symm.trans hp) he
    · omega

set_option maxHeartbeats 1000000 in
theorem reach_win (b B W t now : Nat) (F : Cnt) (w : World) (h : Win w b B W t F) (hn : now ≤ 18446744073709551615) :
    Calls Try.prog 30 #[.pointer (some ⟨b, 0, none⟩), .int .u64 now] w fun r w' => r = .returned (.tuple #[]) ∧ Frm (· = b) w w' ∧ Win w' b B W (max (now / W) t) F := by
  obtain ⟨Z, hb, hl⟩ := h.blk
  obtain ⟨c0, c1, c2⟩ := wobj_cells hb
  have hB1 := h.B1
  have hB8 := h.B8
  have hW1 := h.W1
  have hWm := h.Wm
  have htm := h.tm
  have hne : ((W : Int) == 0) = false := by simp; omega
  obtain ⟨q, hq⟩ : ∃ q, now / W = q := ⟨_, rfl⟩
  have hqm : q ≤ 18446744073709551615 := by rw [← hq]; exact Nat.le_trans (Nat.div_le_self _ _) hn
  have hwq : IntKind.u64.wrap ((now : Int) / (W : Int)) = (q : Int) := by rw [← Int.natCast_ediv, hq, IntKind.wrap_u64]; omega
  obtain ⟨t', ht'⟩ : ∃ t', max q t = t' := ⟨_, rfl⟩
  have htt : t ≤ t' ∧ t' ≤ 18446744073709551615 := by rw [← ht']; omega
  have hmx : (if q < t then (t : Int) else (q : Int)) = (t' : Int) := by rw [← ht']; split <;> omega
  obtain ⟨d, hd⟩ : ∃ d, t' - t = d := ⟨_, rfl⟩
  have hwd : IntKind.u64.wrap ((t' : Int) - (t : Int)) = (d : Int) := by rw [IntKind.wrap_u64]; omega
  obtain ⟨m, hm⟩ : ∃ m, (if d < B then d else B) = m := ⟨_, rfl⟩
  have hmn : (if B < d then (B : Int) else (d : Int)) = (m : Int) := by rw [← hm]; split <;> split <;> omega
  have hmn' : (if d < B then (d : Int) else (B : Int)) = (m : Int) := by rw [← hm]; split <;> omega
  have hm8 : m ≤ B ∧ m ≤ t' := by rw [← hm]; split <;> omega
  have HB := Lib.hid hb
  have HL := Lib.hid hl
  have HW := Lib.hid h
  have HQ := Lib.hid hq
  have HT := Lib.hid ht'
  have HD := Lib.hid hd
  have HM := Lib.hid hm
  clear h hb hl hq ht' hd hm
  go_enter Try.func30, Try.ntmps30
  go_wp2
  go_region
  go_wp2
  go_region
  go_wp2
  go_loopg [30] m (fun k v30 wr => ∃ (i : Nat) (Z' : List Int), i + k = m ∧ v30 = .int .u64 i ∧ wr.heap[b]? = some (wobj B W t Z') ∧ Clr B t' i Z Z' ∧ Frm (· = b) w wr)
  case atStart =>
    refine ⟨0, Z, by omega, rfl, HB.out, ⟨HL.out.len, fun p k hp hk => ⟨fun ⟨j, hj, _⟩ => by omega, fun _ => rfl⟩⟩, ?_⟩
    exact Frm.of_ali ((drew_ali _).trans (drew_ali _))
  case round =>
    obtain ⟨i, Z', hi, rfl, hb, hu, hf⟩ := hrel
    have HI := Lib.hid hi
    have HU := Lib.hid hu
    have HB' := Lib.hid hb
    have HF := Lib.hid hf
    by_cases hlt : i < m
    · obtain ⟨n, hn'⟩ : ∃ n, t' - i = n := ⟨_, rfl⟩
      obtain ⟨p, hp⟩ : ∃ p, n % B = p := ⟨_, rfl⟩
      have hpB : p < B := by rw [← hp]; exact Nat.mod_lt _ (by omega)
      have hwn : IntKind.u64.wrap ((t' : Int) - (i : Int)) = (n : Int) := by rw [IntKind.wrap_u64]; omega
      obtain ⟨e0, _, _⟩ := wobj_cells hb
      have hlen := hu.1
      generalize hwd : wr.drew = wd
      have hb2 : wd.heap[b]? = some (wobj B W t Z') := by rw [← hwd]; exact hb
      obtain ⟨f0, _, _⟩ := wobj_cells hb2
      have hpl := place_any b n B wd f0 hB1
      rw [hp] at hpl
      have hcl : ∀ ty, (Builtin.clear_ #[54] ty #[.slice (some ⟨b, 3 + p * 5, none⟩) 5 5]).run Try.prog wd = .ok (.tuple #[]) (wd.setCells b (3 + p * 5) ((List.replicate 5 0).map (Value.int .u64))) :=
        fun ty => run_clear_ints wd _ 22 ty .u64 (.int .u64 0) 1 (by kernel_rfl) (fun w => by kernel_rfl) rfl (by omega) b (3 + p * 5) 5 5 (by omega) (fun j hj => by rw [Nat.add_assoc]; exact wobj_there hb2 hlen _ (by omega)) (fun j hj => frozen_of hb2 _)
      have HWD := Lib.hid hwd
      have hfd : Frm (· = b) w wd := by rw [← hwd]; exact hf.ali (drew_ali _)
      have HX := Lib.hid (wobj_puts hb2 (p * 5) (List.replicate 5 0))
      have HY := Lib.hid (frm_setCells (F := (· = b)) (b := b) rfl ((List.replicate 5 (0 : Int)).map (Value.int .u64)) (3 + p * 5) w wd hfd)
      have HP := Lib.hid (show (t' - i) % B = p by rw [hn', hp])
      clear hfd
      have hlt' : (i : Int) < m := by omega
      have hp8 : (p : Int) < 8 := by omega
      clear hi hu hf hb
      go_wp2
      refine region_tail 10 (by kernel_rfl) (by kernel_rfl) ?_
      simp only [List.take_succ_cons, List.take_zero, List.drop_succ_cons, List.drop_zero]
      rw [HWD.out]
      repeat still_step
      still_call (hpl)
      repeat still_step
      refine wpStill_nil ?_
      go_wp2
      go_roundg (m - (i + 1))
      case measure => have := HI.out; omega
      case rel =>
        exact ⟨i + 1, put Z' (p * 5) (List.replicate 5 0), by omega, by simp, HX.out, HU.out.step HP.out (by omega), HY.out⟩
    · have hlt' : ¬ (i : Int) < m := by omega
      obtain ⟨_, _, e2⟩ := wobj_cells hb
      have e3 := frozen_of hb 2
      clear hi hu hf hb
      go_wp2
      go_end0
      obtain rfl : i = m := by have := HI.out; omega
      have hq := HQ.out
      have ht' := HT.out
      refine ⟨rfl, HF.out.set (p := ⟨b, 2, none⟩) rfl _, ?_⟩
      rw [hq, ht']
      exact ⟨⟨Z', wobj_last HB'.out _, HL.out.reach hB1 hB8 htt.1 (by rw [← HM.out, ← HD.out]) HU.out⟩, hB1, hB8, hW1, hWm, htt.2⟩
end Go.Proofs.Ytfncipoiblieeaa
