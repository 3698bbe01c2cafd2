/- Contracts of the functions that the statement DepNobody reaches, part 3 of 5. -/
import Derived.Test.YtgnccpmkdgfjeaaGreatPart2
import Derived.Deep.RegionHeld3
import Derived.Shelf.SlSortCmp.InsertionK
import Derived.WalkLawsBesides
import Derived.Outline
import Derived.Deep.LoopGhost
import Derived.Deep.RegionLaw
import Derived.Deep.DeepCutAuto
namespace Go.Proofs.YtgnccpmkdgfjeaaGreat
set_option linter.unusedVariables false
set_option maxRecDepth 100000
open Go.ChangeShapes Go.WideShapes Go.ChangeAt Go.RowKit

theorem add_nil (now k n : Int) (w : World) : Calls Tryz.prog 120 #[.pointer none, .int .u64 now, .int .i64 k, .int .u64 n] w fun r w' => r = .returned (.bool false) ∧ w' = w := by
  go_enter Tryz.func120, Tryz.ntmps120
  go_wp2
  go_ret
  exact ⟨rfl, rfl⟩
theorem add_bad (b : Nat) (now k n : Int) (w : World) (hk : k < 0 ∨ 5 ≤ k) : Calls Tryz.prog 120 #[.pointer (some ⟨b, 0, none⟩), .int .u64 now, .int .i64 k, .int .u64 n] w fun r w' => r = .returned (.bool false) ∧ w' = w := by
  by_cases h1 : k < 0
  · go_enter Tryz.func120, Tryz.ntmps120
    go_wp2
    go_ret
    exact ⟨rfl, rfl⟩
  · have h2 : 5 ≤ k := by omega
    go_enter Tryz.func120, Tryz.ntmps120
    go_wp2
    go_ret
    exact ⟨rfl, rfl⟩

set_option maxHeartbeats 1000000 in
theorem add_win (b B W t now k : Nat) (n : Int) (F : Cnt) (w : World) (h : Win w b B W t F) (hn : now ≤ 18446744073709551615) (hk : k < 5) (h0 : 0 ≤ n) (h1 : n ≤ 18446744073709551615) :
    Calls Tryz.prog 120 #[.pointer (some ⟨b, 0, none⟩), .int .u64 now, .int .i64 k, .int .u64 n] w fun r w' => r = .returned (.bool true) ∧ Frm (· = b) w w' ∧
      Win w' b B W (max (now / W) t) (upd F (max (now / W) t) k (addS (F (max (now / W) t) k) n)) := by
  have hr := reach_win b B W t now F w h hn
  obtain ⟨t', ht'⟩ : ∃ t', max (now / W) t = t' := ⟨_, rfl⟩
  rw [ht'] at hr ⊢
  clear ht' h
  have k0 : ¬ (k : Int) < 0 := by omega
  have k5 : ¬ (5 : Int) ≤ (k : Int) := by omega
  have k5' : (k : Int) < 5 := by omega
  go_enter Tryz.func120, Tryz.ntmps120
  go_wp2_with fail
  refine hr.mono ?_
  clear hr
  rintro r w1 ⟨rfl, hf, hw⟩
  obtain ⟨Z, hb, hl⟩ := hw.blk
  have hB1 := hw.B1
  have hB8 := hw.B8
  obtain ⟨p, hp⟩ : ∃ p, t' % B = p := ⟨_, rfl⟩
  have hp8 : (p : Int) < 8 := by have := Nat.mod_lt t' (show 0 < B by omega); omega
  generalize hwd : w1.drew = wd
  have hb1 : wd.heap[b]? = some (wobj B W t' Z) := by rw [← hwd]; exact hb
  obtain ⟨c0, _, c2⟩ := wobj_cells hb1
  have hpl := place_any b t' B wd c0 hB1
  rw [hp] at hpl
  have HWD := Lib.hid hwd
  have HF := Lib.hid hf
  have HW := Lib.hid hw
  have HB1 := Lib.hid hb1
  have HL := Lib.hid hl
  have HP := Lib.hid hp
  clear hf hw hb hl hp hb1
  go_wp2
  refine region_tail 10 (by kernel_rfl) (by kernel_rfl) ?_
  simp only [List.take_succ_cons, List.take_zero, List.drop_succ_cons, List.drop_zero]
  rw [HWD.out]
  repeat still_step
  still_call (hpl)
  repeat still_step
  refine wpStill_nil ?_
  clear hpl c0 c2
  generalize hwe : wd.drew = we
  have hb2 : we.heap[b]? = some (wobj B W t' Z) := by rw [← hwe]; exact HB1.out
  have hz : Z[p * 5 + k]? = some (F t' k) := by
    have := HL.out.here t' k (by omega) (by omega) hk
    rwa [HP.out, Nat.mul_comm] at this
  have hbd := HL.out.bd t' k
  have q0 := wobj_cell hb2 hz
  rw [← Nat.add_assoc] at q0
  have q1 := frozen_of hb2 (3 + p * 5 + k)
  have hs := addS_bd hbd.1 h0
  have ha := (add_any (F t' k) n we hbd.1 h0 hbd.2 h1).mono (R' := fun e w' => e = .returned (.int .u64 (addS (F t' k) n)) ∧ w' = we) (fun _ _ h => ⟨h.1, h.2.symm⟩)
  have hlay := HL.out.add (k := k) (x := addS (F t' k) n) hB1 hB8 hk hs
  rw [HP.out, Nat.mul_comm 5 p] at hlay
  have hset := wobj_set hb2 (p * 5 + k) (addS (F t' k) n)
  rw [← Nat.add_assoc] at hset
  have HWE := Lib.hid hwe
  generalize hX : upd F t' k (addS (F t' k) n) = X at hlay
  have HXX := Lib.hid hX
  clear hX hb2 hz
  generalize addS (F t' k) n = x at ha hlay hset hs
  generalize F t' k = y at ha q0 hbd
  have HLY := Lib.hid hlay
  have HST := Lib.hid hset
  clear hlay hset
  go_wp2
  refine region_tail 11 (by kernel_rfl) (by kernel_rfl) ?_
  simp only [List.take_succ_cons, List.take_zero, List.drop_succ_cons, List.drop_zero]
  rw [HWE.out]
  repeat still_step
  still_call (ha)
  repeat still_step
  refine wpStill_nil ?_
  go_wp2
  go_ret
  have hfe : Frm (· = b) w we := by rw [← HWE.out, ← HWD.out]; exact (HF.out.ali (drew_ali _)).ali (drew_ali _)
  refine ⟨rfl, hfe.set (F := (· = b)) (p := ⟨b, _, none⟩) rfl _, ?_⟩
  rw [HXX.out]
  exact ⟨⟨_, HST.out, HLY.out⟩, hB1, hB8, HW.out.W1, HW.out.Wm, HW.out.tm⟩

end Go.Proofs.YtgnccpmkdgfjeaaGreat

namespace Go.Proofs.YtgnccpmkdgfjeaaGreat
set_option linter.unusedVariables false
set_option maxRecDepth 100000
open Go.ChangeShapes Go.WideShapes Go.ChangeAt Go.RowKit

theorem reset_nil (w : World) : Calls Tryz.prog 122 #[.pointer none] w fun r w' => r = .returned (.tuple #[]) ∧ w' = w := by
  go_enter Tryz.func122, Tryz.ntmps122
  go_wp2
  refine bodyPost_ret (results_none rfl _ _ _) rfl ?_
  exact ⟨rfl, rfl⟩

theorem put_all (Z vs : List Int) (h : vs.length = Z.length) : put Z 0 vs = vs := by
  apply List.ext_getElem?
  intro j
  by_cases hj : j < vs.length
  · have := put_in vs Z 0 j hj (by omega)
    rwa [Nat.zero_add] at this
  · rw [put_out _ _ _ _ (by omega), List.getElem?_eq_none (by omega), List.getElem?_eq_none (by omega)]

theorem reset_win (b B W t : Nat) (F : Cnt) (w : World) (h : Win w b B W t F) :
    Calls Tryz.prog 122 #[.pointer (some ⟨b, 0, none⟩)] w fun r w' => r = .returned (.tuple #[]) ∧ Frm (· = b) w w' ∧ Win w' b B W t (fun _ _ => 0) := by
  obtain ⟨Z, hb, hl⟩ := h.blk
  have hlen := hl.len
  have hcl : ∀ ty, (Builtin.clear_ #[263] ty #[.slice (some ⟨b, 3, none⟩) 8 8]).run Tryz.prog w = .ok (.tuple #[]) (w.setCells b 3 ((List.replicate 40 0).map (Value.int .u64))) :=
    fun ty => run_clear_ints w _ 67 ty .u64 (.agg (Array.replicate 5 (.int .u64 0))) 5 (by kernel_rfl) (fun w => by kernel_rfl) rfl (by omega) b 3 8 8 (by omega) (fun j hj => wobj_there hb hlen _ (by omega)) (fun j hj => frozen_of hb _)
  have hx := wobj_puts hb 0 (List.replicate 40 0)
  rw [put_all _ _ (by rw [hlen]; rfl)] at hx
  have HX := Lib.hid (show Win (w.setCells b 3 ((List.replicate 40 0).map (Value.int .u64))) b B W t (fun _ _ => 0) from ⟨⟨_, hx, Lay.new B t h.B1 h.B8⟩, h.B1, h.B8, h.W1, h.Wm, h.tm⟩)
  have HY := Lib.hid (frm_setCells (F := (· = b)) (b := b) rfl ((List.replicate 40 (0 : Int)).map (Value.int .u64)) 3 w w (Frm.refl _ _))
  clear hb hl hlen hx h
  generalize w.setCells b 3 ((List.replicate 40 0).map (Value.int .u64)) = w' at *
  go_enter Tryz.func122, Tryz.ntmps122
  go_wp2
  go_end0
  exact ⟨rfl, HY.out, HX.out⟩
end Go.Proofs.YtgnccpmkdgfjeaaGreat

namespace Go.Proofs.YtgnccpmkdgfjeaaGreat
set_option linter.unusedVariables false
set_option maxRecDepth 100000
open Go.ChangeShapes Go.WideShapes Go.ChangeAt Go.RowKit

theorem Frm.new {F : Nat → Prop} {a w : World} (h : Frm F a w) {g : Nat} (hg : a.heap.size ≤ g) (o : Nat) (u : Value) : Frm F a (w.setCell ⟨g, o, none⟩ u) :=
  ⟨h.os, h.tape, h.output, by rw [heap_set_size]; exact h.size, fun j hj hn => by rw [heap_set_other (show j ≠ g by omega)]; exact h.block j hj hn⟩

/-- Five numbers, by value. -/
abbrev arr5 (a b c d e : Int) : Array Value := #[.int .u64 a, .int .u64 b, .int .u64 c, .int .u64 d, .int .u64 e]
abbrev tobj (T : List Int) : Obj := .cells ⟨T.map (Value.int .u64)⟩ 67
theorem tobj_cell {w : World} {g : Nat} {T : List Int} (h : w.heap[g]? = some (tobj T)) {j : Nat} {z : Int} (hz : T[j]? = some z) : w.cell? ⟨g, j, none⟩ = some (.int .u64 z) := by
  rw [cell_of h]; simp [hz]
theorem tobj_set {w : World} {g : Nat} {T : List Int} (h : w.heap[g]? = some (tobj T)) (j : Nat) (z : Int) : (w.setCell ⟨g, j, none⟩ (.int .u64 z)).heap[g]? = some (tobj (T.set j z)) := by
  rw [heap_set_same h]; simp [List.map_set]

theorem counts_nil (now : Int) (w : World) : Calls Tryz.prog 59 #[.pointer none, .int .u64 now] w fun r w' => r = .returned (.agg (arr5 0 0 0 0 0)) ∧ Below w.heap.size w w' := by
  go_enter Tryz.func59, Tryz.ntmps59
  go_wp2
  refine bodyPost_ret (v := .agg _) (by simp [results, Tryz.results59, go_sem]; rfl) rfl ⟨?_, ?_⟩
  · rfl
  · exact ((Below.refl _ _).alloc (Nat.le_refl _) _).alloc (by simp) _

/-- What a row of five cells holds behind j buckets (and the kinds below k one more). -/
def Upd5 (Z T : List Int) (j k : Nat) : Prop := T.length = 5 ∧ ∀ i, i < 5 → T[i]? = some (satS (sumN (fun q => Z.getD (5 * q + i) 0) (if i < k then j + 1 else j)))
theorem Upd5.step {Z T : List Int} {j k : Nat} (h : Upd5 Z T j k) (hk : k < 5) (hz : ∀ q, 0 ≤ Z.getD q 0) {x : Int} (hx : x = addS (satS (sumN (fun q => Z.getD (5 * q + k) 0) j)) (Z.getD (5 * j + k) 0)) : Upd5 Z (T.set k x) j (k + 1) := by
  refine ⟨by simp [h.1], fun i hi => ?_⟩
  by_cases he : i = k
  · subst he
    rw [List.getElem?_set_self (by rw [h.1]; exact hi), if_pos (by omega), hx, addS_satS (sumN_nonneg fun _ _ => hz _) (hz _)]
    rfl
  · rw [List.getElem?_set_ne (by omega), h.2 i hi]
    by_cases hik : i < k
    · rw [if_pos hik, if_pos (by omega)]
    · rw [if_neg hik, if_neg (by omega)]
theorem Upd5.next {Z T : List Int} {j : Nat} (h : Upd5 Z T j 5) : Upd5 Z T (j + 1) 0 := by
  refine ⟨h.1, fun i hi => ?_⟩
  rw [h.2 i hi, if_pos hi, if_neg (by omega)]

theorem Lay.cell {B t : Nat} {F : Cnt} {Z : List Int} (h : Lay B t F Z) (hB : 1 ≤ B) (hB8 : B ≤ 8) (q : Nat) : 0 ≤ Z.getD q 0 ∧ Z.getD q 0 ≤ 18446744073709551615 := by
  by_cases hq : q < 40
  · rw [List.getD_eq_getElem?_getD]
    have e : q = 5 * (q / 5) + q % 5 := by omega
    by_cases hx : ∃ q', q' ≤ t ∧ t < q' + B ∧ q' % B = q / 5
    · obtain ⟨q', h1, h2, h3⟩ := hx
      rw [e, ← h3, h.here q' (q % 5) h1 h2 (by omega)]
      exact h.bd _ _
    · rw [e, h.none (q / 5) (q % 5) (by omega) (by omega) (fun q' h1 h2 h3 => hx ⟨q', h1, h2, h3⟩)]
      simp
  · rw [List.getD_eq_getElem?_getD, List.getElem?_eq_none (by rw [h.len]; omega)]
    simp
theorem ext5 (Z : List Int) (j : Nat) (hl : Z.length = 40) (hj : j < 8) : (Array.mk (Z.map (Value.int .u64))).extract ((j : Int).toNat * 5) ((j : Int).toNat * 5 + 5) = arr5 (Z.getD (5 * j + 0) 0) (Z.getD (5 * j + 1) 0) (Z.getD (5 * j + 2) 0) (Z.getD (5 * j + 3) 0) (Z.getD (5 * j + 4) 0) := by
  rw [Int.toNat_natCast]
  apply Array.ext
  · simp [hl]; omega
  · intro i h1 h2
    have hi : i < 5 := h2
    have hg : ∀ q, q < 40 → Z[q]? = some (Z.getD q 0) := fun q hq => by rw [List.getD_eq_getElem?_getD, List.getElem?_eq_getElem (by omega)]; rfl
    have hat : ((Array.mk (Z.map (Value.int .u64))).extract (j * 5) (j * 5 + 5))[i]? = some (.int .u64 (Z.getD (5 * j + i) 0)) := by
      rw [Array.getElem?_extract_of_lt (by simp [hl]; omega)]
      have := hg (j * 5 + i) (by omega)
      rw [List.getElem?_eq_getElem (by omega)] at this
      injection this with this
      simp only [List.getElem_toArray, List.getElem_map, this]
      rw [Nat.mul_comm j 5]
    rw [Array.getElem?_eq_getElem h1] at hat
    injection hat with hat
    rw [hat]
    rcases (show i = 0 ∨ i = 1 ∨ i = 2 ∨ i = 3 ∨ i = 4 by omega) with rfl | rfl | rfl | rfl | rfl <;> rfl

set_option maxHeartbeats 2000000 in
theorem counts_win (b B W t now : Nat) (F : Cnt) (w : World) (h : Win w b B W t F) (hn : now ≤ 18446744073709551615) :
    Calls Tryz.prog 59 #[.pointer (some ⟨b, 0, none⟩), .int .u64 now] w fun r w' =>
      r = .returned (.agg (arr5 (satS (tot F (max (now / W) t) 0 B)) (satS (tot F (max (now / W) t) 1 B)) (satS (tot F (max (now / W) t) 2 B)) (satS (tot F (max (now / W) t) 3 B)) (satS (tot F (max (now / W) t) 4 B)))) ∧
      Frm (· = b) w w' ∧ Win w' b B W (max (now / W) t) F := by
  obtain ⟨g, hg⟩ : ∃ g, w.heap.size = g := ⟨_, rfl⟩
  obtain ⟨w2, hw2⟩ : ∃ w2, (w.alloc (.cells (arr5 0 0 0 0 0) 67)).alloc (.cells (arr5 0 0 0 0 0) 67) = w2 := ⟨_, rfl⟩
  have hbl : Below w.heap.size w w2 := by rw [← hw2]; exact ((Below.refl _ _).alloc (Nat.le_refl _) _).alloc (by simp) _
  have hbg : b < g := by rw [← hg]; exact h.lt
  have hgz : w2.heap.size = g + 1 + 1 := by rw [← hw2]; simp [hg]
  have hg0 : w2.heap[g]? = some (tobj [0, 0, 0, 0, 0]) := by
    rw [← hw2, ← hg]
    exact kb_alloc (heap_alloc_at w _) _
  have hg1 : w2.heap[g + 1]? = some (tobj [0, 0, 0, 0, 0]) := by
    rw [← hw2, ← hg]
    have := heap_alloc_at (w.alloc (.cells (arr5 0 0 0 0 0) 67)) (.cells (arr5 0 0 0 0 0) 67)
    simp only [World.alloc, Array.size_push] at this ⊢
    exact this
  have hr := reach_win b B W t now F w2 (h.below hbl) hn
  obtain ⟨t', ht'⟩ : ∃ t', max (now / W) t = t' := ⟨_, rfl⟩
  rw [ht'] at hr ⊢
  have HG := Lib.hid hg
  have HW2 := Lib.hid hw2
  have HBL := Lib.hid hbl
  have HG0 := Lib.hid hg0
  have HG1 := Lib.hid hg1
  clear ht' h hg hw2 hbl hg0 hg1
  go_enter Tryz.func59, Tryz.ntmps59
  go_wp2_with fail
  rw [HW2.out, HG.out]
  refine hr.mono ?_
  clear hr
  rintro r w1 ⟨rfl, hf, hw⟩
  obtain ⟨Z, hb, hl⟩ := hw.blk
  have hlen := hl.len
  obtain ⟨cs, hC⟩ : ∃ cs, Z.map (Value.int .u64) = cs := ⟨_, rfl⟩
  have hld : w1.rangeAt b 3 cs := fun j v hv => by
      rw [← hC] at hv
      simp only [List.getElem?_map, Option.map_eq_some_iff] at hv
      obtain ⟨z, hz, rfl⟩ := hv
      exact wobj_cell hb hz
  have hsz : (Tryz.prog.info? 174).map (·.size) = some cs.length := by rw [← hC, List.length_map, hlen]; kernel_rfl
  have hix : ∀ (j : Nat), j < 8 → ∀ w, (Instr.index 174 (.agg cs.toArray) (.int .i64 j)).run Tryz.prog w = .ok (.agg (arr5 (Z.getD (5 * j + 0) 0) (Z.getD (5 * j + 1) 0) (Z.getD (5 * j + 2) 0) (Z.getD (5 * j + 3) 0) (Z.getD (5 * j + 4) 0))) w := by
    intro j hj w
    rw [run_index_agg w 174 67 8 5 cs.toArray .i64 j (by kernel_rfl) (by kernel_rfl) (by kernel_rfl) (by omega) (by omega), ← hC]
    rw [show (Z.map (Value.int .u64)).toArray = Array.mk (Z.map (Value.int .u64)) from rfl, ext5 Z j hlen hj]
  have hzz : ∀ q, 0 ≤ Z.getD q 0 ∧ Z.getD q 0 ≤ 18446744073709551615 := hl.cell hw.B1 hw.B8
  have f2 : Frm (· = b) w w1 := (Frm.of_below (F := (· = b)) HBL.out).trans hf (fun _ _ h => h)
  have g0 : w1.heap[g]? = some (tobj [0, 0, 0, 0, 0]) := by rw [hf.block g (by omega) (by omega)]; exact HG0.out
  have g1 : w1.heap[g + 1]? = some (tobj [0, 0, 0, 0, 0]) := by rw [hf.block (g + 1) (by omega) (by omega)]; exact HG1.out
  have HZ := Lib.hid hzz
  have HLD := Lib.hid hld
  have HSZ := Lib.hid hsz
  have HIX := Lib.hid hix
  have HF := Lib.hid f2
  have HW := Lib.hid hw
  have HL := Lib.hid hl
  have K0 := Lib.hid g0
  have K1 := Lib.hid g1
  clear hf hw hb hl hlen hC hix hzz f2 g0 g1 hld hsz
  go_wp2_with (refine wpList_load_mid rfl 174 (.tmp 18) rfl b 3 rfl cs (.array 8 67) HLD.out (by kernel_rfl) rfl HSZ.out ?_)
  go_loopg [20] 8 (fun k v20 wr => ∃ (j : Nat) (T : List Int), j + k = 8 ∧ v20 = .int .i64 j ∧ wr.heap[g + 1]? = some (tobj T) ∧ Upd5 Z T j 0 ∧ wr.heap[g]? = some (tobj [0, 0, 0, 0, 0]) ∧ Win wr b B W t' F ∧ Frm (· = b) w wr)
  case atStart =>
    refine ⟨0, [0, 0, 0, 0, 0], rfl, rfl, K1.out, ⟨rfl, fun i hi => ?_⟩, K0.out, HW.out, HF.out⟩
    rw [if_neg (by omega)]
    rcases (show i = 0 ∨ i = 1 ∨ i = 2 ∨ i = 3 ∨ i = 4 by omega) with rfl | rfl | rfl | rfl | rfl <;> rfl
  case round =>
    obtain ⟨j, T, hj, rfl, k1, hu, k0, hw, hf⟩ := hrel
    have HJ := Lib.hid hj
    have HU := Lib.hid hu
    have K1' := Lib.hid k1
    have K0' := Lib.hid k0
    have HW' := Lib.hid hw
    have HF' := Lib.hid hf
    by_cases hlt : j < 8
    · have hlt' : (j : Int) < 8 := by omega
      have hix := HIX.out j hlt
      generalize hz0 : Z.getD (5 * j + 0) 0 = z0 at hix
      generalize hz1 : Z.getD (5 * j + 1) 0 = z1 at hix
      generalize hz2 : Z.getD (5 * j + 2) 0 = z2 at hix
      generalize hz3 : Z.getD (5 * j + 3) 0 = z3 at hix
      generalize hz4 : Z.getD (5 * j + 4) 0 = z4 at hix
      have hD : ∀ (k : Nat), k < 5 → ∀ w, (Instr.index 67 (.agg (arr5 z0 z1 z2 z3 z4)) (.int .i64 k)).run Tryz.prog w = .ok (.int .u64 (Z.getD (5 * j + k) 0)) w := by
        intro k hk w
        refine run_index_one w 67 22 5 _ .i64 k _ (by kernel_rfl) (by kernel_rfl) (by kernel_rfl) (by omega) (by omega) ?_
        rw [Int.toNat_natCast]
        rcases (show k = 0 ∨ k = 1 ∨ k = 2 ∨ k = 3 ∨ k = 4 by omega) with rfl | rfl | rfl | rfl | rfl
        · rw [hz0]; rfl
        · rw [hz1]; rfl
        · rw [hz2]; rfl
        · rw [hz3]; rfl
        · rw [hz4]; rfl
      have HD := Lib.hid hD
      clear hj hu k1 k0 hw hf hz0 hz1 hz2 hz3 hz4 hD
      go_wp2
      clear hix
      have hba := below_alloc wr (.cells (arr5 z0 z1 z2 z3 z4) 67)
      generalize wr.alloc (.cells (arr5 z0 z1 z2 z3 z4) 67) = wi at *
      have I1 := Lib.hid (kb_below K1'.out hba)
      have I0 := Lib.hid (kb_below K0'.out hba)
      have IW := Lib.hid (HW'.out.below hba)
      have IF := Lib.hid (HF'.out.then_below hba)
      clear hba
      go_loopg [24] 5 (fun kk v24 wr => ∃ (k : Nat) (T' : List Int), k + kk = 5 ∧ v24 = .int .i64 k ∧ wr.heap[g + 1]? = some (tobj T') ∧ Upd5 Z T' j k ∧ wr.heap[g]? = some (tobj [0, 0, 0, 0, 0]) ∧ Win wr b B W t' F ∧ Frm (· = b) w wr)
      case atStart => exact ⟨0, T, rfl, rfl, I1.out, HU.out, I0.out, IW.out, IF.out⟩
      case round =>
        obtain ⟨k, T', hk, rfl, k1, hu, k0, hw, hf⟩ := hrel
        have HK := Lib.hid hk
        have HU' := Lib.hid hu
        have R1 := Lib.hid k1
        have R0 := Lib.hid k0
        have RW := Lib.hid hw
        have RF := Lib.hid hf
        by_cases hkl : k < 5
        · have hkl' : (k : Int) < 5 := by omega
          have hik := HD.out k hkl
          dsimp only [arr5] at hik
          obtain ⟨x, hx⟩ : ∃ x, satS (sumN (fun q => Z.getD (5 * q + k) 0) j) = x := ⟨_, rfl⟩
          have hxb : 0 ≤ x ∧ x ≤ 18446744073709551615 := by rw [← hx]; exact satS_bd (sumN_nonneg fun _ _ => (HZ.out _).1)
          have hTx : T'[k]? = some x := by rw [hu.2 k hkl, if_neg (by omega), hx]
          have q0 := tobj_cell k1 hTx
          have f0 := frozen_of k1 k
          have hlt2 := heap_lt k1
          obtain ⟨z, hz⟩ : ∃ z, Z.getD (5 * j + k) 0 = z := ⟨_, rfl⟩
          have hzb := HZ.out (5 * j + k)
          rw [hz] at hik hzb
          have hst := hu.step (x := addS x z) hkl (fun q => (HZ.out q).1) (by rw [hx, hz])
          have HST := Lib.hid hst
          clear hk hu k1 k0 hw hf hx hTx hz hst
          go_wp2_with fail
          have hss := sum_two wr.heap.size 0 2 x z (wr.alloc (.cells #[.int .u64 x, .int .u64 z] 22)) hxb.1 hzb.1 hxb.2 hzb.2 (by rw [cell_of (heap_alloc_at wr _)]; rfl) (by rw [cell_of (heap_alloc_at wr _)]; rfl)
          refine hss.mono ?_
          clear hss
          rintro r w5 ⟨rfl, rfl⟩
          have hba := below_alloc wr (.cells #[.int .u64 x, .int .u64 z] 22)
          have p0 := cell_alloc q0 (.cells #[.int .u64 x, .int .u64 z] 22)
          have pk := kb_below R1.out hba
          have p1 := frozen_of pk k
          generalize wr.alloc (.cells #[.int .u64 x, .int .u64 z] 22) = w5 at *
          have S1 := Lib.hid (tobj_set pk k (addS x z))
          have S0 := Lib.hid ((heap_set_other (p := ⟨g + 1, k, none⟩) (k := g) (by simp) (.int .u64 (addS x z))).trans (kb_below R0.out hba))
          have SW := Lib.hid ((RW.out.below hba).keep (heap_set_other (p := ⟨g + 1, k, none⟩) (k := b) (by simp; omega) (.int .u64 (addS x z))))
          have SF := Lib.hid ((RF.out.then_below hba).new (g := g + 1) (by rw [HG.out]; omega) k (.int .u64 (addS x z)))
          generalize addS x z = y at *
          clear hba pk q0 f0 hik
          go_wp2
          go_roundg (5 - (k + 1))
          case measure => have := HK.out; omega
          case rel => exact ⟨k + 1, T'.set k y, by omega, by simp, S1.out, HST.out, S0.out, SW.out, SF.out⟩
        · have hkl' : ¬ (k : Int) < 5 := by omega
          clear hk hu k1 k0 hw hf
          go_wp2
          obtain rfl : k = 5 := by have := HK.out; omega
          go_roundg (8 - (j + 1))
          case measure => have := HJ.out; omega
          case rel => exact ⟨j + 1, T', by omega, by simp, R1.out, HU'.out.next, R0.out, RW.out, RF.out⟩
    · have hlt' : ¬ (j : Int) < 8 := by omega
      obtain rfl : j = 8 := by omega
      have hT : T = [satS (tot F t' 0 B), satS (tot F t' 1 B), satS (tot F t' 2 B), satS (tot F t' 3 B), satS (tot F t' 4 B)] := by
        have hw := HW'.out
        have hl := HL.out
        apply List.ext_getElem?
        intro i
        by_cases hi : i < 5
        · rw [hu.2 i hi, if_neg (by omega), hl.tot hw.B1 hw.B8 hi]
          rcases (show i = 0 ∨ i = 1 ∨ i = 2 ∨ i = 3 ∨ i = 4 by omega) with rfl | rfl | rfl | rfl | rfl <;> rfl
        · rw [List.getElem?_eq_none (by rw [hu.1]; omega), List.getElem?_eq_none (by simp; omega)]
      rw [hT] at k1
      generalize e0 : satS (tot F t' 0 B) = x0 at k1
      have E0 := Lib.hid e0
      generalize e1 : satS (tot F t' 1 B) = x1 at k1
      have E1 := Lib.hid e1
      generalize e2 : satS (tot F t' 2 B) = x2 at k1
      have E2 := Lib.hid e2
      generalize e3 : satS (tot F t' 3 B) = x3 at k1
      have E3 := Lib.hid e3
      generalize e4 : satS (tot F t' 4 B) = x4 at k1
      have E4 := Lib.hid e4
      have q0 := tobj_cell k1 (j := 0) rfl
      have q1 := tobj_cell k1 (j := 1) rfl
      have q2 := tobj_cell k1 (j := 2) rfl
      have q3 := tobj_cell k1 (j := 3) rfl
      have q4 := tobj_cell k1 (j := 4) rfl
      have p0 := tobj_cell k0 (j := 0) rfl
      have p1 := tobj_cell k0 (j := 1) rfl
      have p2 := tobj_cell k0 (j := 2) rfl
      have p3 := tobj_cell k0 (j := 3) rfl
      have p4 := tobj_cell k0 (j := 4) rfl
      have f0 := frozen_of k0 0
      have f1 := frozen_of k0 1
      have f2 := frozen_of k0 2
      have f3 := frozen_of k0 3
      have f4 := frozen_of k0 4
      clear hj hu k1 k0 hw hf hT e0 e1 e2 e3 e4
      go_wp2
      refine bodyPost_ret (v := .agg _) (by simp [results, Tryz.results59, go_sem, p0, p1, p2, p3, p4]; rfl) rfl ⟨?_, ?_, ?_⟩
      · rw [E0.out, E1.out, E2.out, E3.out, E4.out]
      · have hg : w.heap.size ≤ g := by rw [HG.out]; omega
        exact ((((HF'.out.new hg _ _).new hg _ _).new hg _ _).new hg _ _).new hg _ _
      · refine HW'.out.keep ?_
        rw [heap_set_other (by simp; omega), heap_set_other (by simp; omega), heap_set_other (by simp; omega), heap_set_other (by simp; omega), heap_set_other (by simp; omega)]

end Go.Proofs.YtgnccpmkdgfjeaaGreat

namespace Go.Proofs.YtgnccpmkdgfjeaaGreat
set_option linter.unusedVariables false
open Go.ChangeShapes Go.WideShapes Go.ChangeAt Go.RowKit

theorem trip_brk (b : Nat) (now : Int) (x : BK) (w : World) (h : Brk w b x) :
    Calls Tryz.prog 124 #[.pointer (some ⟨b, 0, none⟩), .int .u64 now] w fun r w' => r = .returned (.bool x.trips) ∧ Brk w' b (x.trip now) ∧ Frm (· = b) w w' := by
  obtain ⟨c0, c1, c2, c3⟩ := h.cells
  have HB := Lib.hid h
  have HO := Lib.hid (open_brk b now x w h)
  clear h
  by_cases hf : x.force = 0
  · have hf' : (x.force != 0) = false := by simp [hf]
    by_cases hs : x.state = 1
    · have hs' : (x.state != 1) = false := by simp [hs]
      have e1 : x.trips = true := by simp [BK.trips, hf, hs]
      have e2 : x.trip now = { x with state := 2, since := now } := by simp [BK.trip, hf, hs]
      rw [e1, e2]
      clear hf hs e1 e2
      go_enter Tryz.func124, Tryz.ntmps124
      go_wp2_with (go_at_call 162; refine HO.out.mono ?_; rintro r w1 ⟨rfl, hb, hfr⟩)
      go_ret
      exact ⟨rfl, hb, hfr⟩
    · have hs' : (x.state != 1) = true := by simp [hs]
      have e1 : x.trips = false := by simp [BK.trips, hs]
      have e2 : x.trip now = x := by simp [BK.trip, hs]
      rw [e1, e2]
      clear hf hs e1 e2
      go_enter Tryz.func124, Tryz.ntmps124
      go_wp2
      go_ret
      exact ⟨rfl, HB.out, Frm.refl _ _⟩
  · have hf' : (x.force != 0) = true := by simp [hf]
    have e1 : x.trips = false := by simp [BK.trips, hf]
    have e2 : x.trip now = x := by simp [BK.trip, hf]
    rw [e1, e2]
    clear hf e1 e2
    go_enter Tryz.func124, Tryz.ntmps124
    go_wp2
    go_ret
    exact ⟨rfl, HB.out, Frm.refl _ _⟩

theorem done_brk (b : Nat) (now : Int) (ok : Bool) (x : BK) (w : World) (h : Brk w b x) :
    Calls Tryz.prog 121 #[.pointer (some ⟨b, 0, none⟩), .int .u64 now, .bool ok] w fun r w' => r = .returned (.bool x.half) ∧ Brk w' b (x.done now ok) ∧ Frm (· = b) w w' := by
  obtain ⟨c0, c1, c2, c3⟩ := h.cells
  have z2 : w.frozen? ⟨b, 2, none⟩ = false := frozen_of h 2
  have HB := Lib.hid h
  have HO := Lib.hid (open_brk b now x w h)
  clear h
  by_cases hs : x.state = 3
  · have hs' : (x.state != 3) = false := by simp [hs]
    have e1 : x.half = true := by simp [BK.half, hs]
    rw [e1]
    cases ok with
    | true =>
      have e2 : x.done now true = { x with state := 1 } := by simp [BK.done, hs]
      rw [e2]
      clear hs e1 e2
      go_enter Tryz.func121, Tryz.ntmps121
      go_wp2
      go_ret
      exact ⟨rfl, HB.out.state 1, (Frm.refl _ _).on _ _⟩
    | false =>
      have e2 : x.done now false = { x with state := 2, since := now } := by simp [BK.done, hs]
      rw [e2]
      clear hs e1 e2
      go_enter Tryz.func121, Tryz.ntmps121
      go_wp2_with (go_at_call 162; refine HO.out.mono ?_; rintro r w1 ⟨rfl, hb, hfr⟩)
      go_ret
      exact ⟨rfl, hb, hfr⟩
  · have hs' : (x.state != 3) = true := by simp [hs]
    have e1 : x.half = false := by simp [BK.half, hs]
    have e2 : x.done now ok = x := by simp [BK.done, hs]
    rw [e1, e2]
    clear hs e1 e2
    go_enter Tryz.func121, Tryz.ntmps121
    go_wp2
    go_ret
    exact ⟨rfl, HB.out, Frm.refl _ _⟩

theorem back_brk (b : Nat) (x : BK) (w : World) (h : Brk w b x) :
    Calls Tryz.prog 171 #[.pointer (some ⟨b, 0, none⟩)] w fun r w' => r = .returned (.bool x.half) ∧ Brk w' b x.back ∧ Frm (· = b) w w' := by
  obtain ⟨c0, c1, c2, c3⟩ := h.cells
  have z2 : w.frozen? ⟨b, 2, none⟩ = false := frozen_of h 2
  have HB := Lib.hid h
  clear h
  by_cases hs : x.state = 3
  · have hs' : (x.state != 3) = false := by simp [hs]
    have e1 : x.half = true := by simp [BK.half, hs]
    have e2 : x.back = { x with state := 2 } := by simp [BK.back, hs]
    rw [e1, e2]
    clear hs e1 e2
    go_enter Tryz.func171, Tryz.ntmps171
    go_wp2
    go_ret
    exact ⟨rfl, HB.out.state 2, (Frm.refl _ _).on _ _⟩
  · have hs' : (x.state != 3) = true := by simp [hs]
    have e1 : x.half = false := by simp [BK.half, hs]
    have e2 : x.back = x := by simp [BK.back, hs]
    rw [e1, e2]
    clear hs e1 e2
    go_enter Tryz.func171, Tryz.ntmps171
    go_wp2
    go_ret
    exact ⟨rfl, HB.out, Frm.refl _ _⟩

set_option maxHeartbeats 1000000 in
theorem ask_brk (b : Nat) (now : Int) (x : BK) (w : World) (h : Brk w b x) (hx : x.Fits) (hn : 0 ≤ now ∧ now ≤ 18446744073709551615) :
    Calls Tryz.prog 134 #[.pointer (some ⟨b, 0, none⟩), .int .u64 now] w fun r w' => r = .returned (.int .i64 (x.asked now)) ∧ Brk w' b (x.ask now) ∧ Frm (· = b) w w' := by
  obtain ⟨c0, c1, c2, c3⟩ := h.cells
  have z2 : w.frozen? ⟨b, 2, none⟩ = false := frozen_of h 2
  have HB := Lib.hid h
  clear h
  by_cases f1 : x.force = 1
  · have f1' : (x.force == 1) = true := by simp [f1]
    have e1 : x.asked now = 3 := by simp [BK.asked, f1]
    have e2 : x.ask now = x := by simp [BK.ask, BK.wakes, f1]
    rw [e1, e2]
    clear f1 e1 e2
    go_enter Tryz.func134, Tryz.ntmps134
    go_wp2
    go_ret
    exact ⟨rfl, HB.out, Frm.refl _ _⟩
  · have f1' : (x.force == 1) = false := by simp [f1]
    by_cases f2 : x.force = 2
    · have f2' : (x.force == 2) = true := by simp [f2]
      have e1 : x.asked now = 1 := by simp [BK.asked, f2]
      have e2 : x.ask now = x := by simp [BK.ask, BK.wakes, f2]
      rw [e1, e2]
      clear f1 f2 e1 e2
      go_enter Tryz.func134, Tryz.ntmps134
      go_wp2
      go_ret
      exact ⟨rfl, HB.out, Frm.refl _ _⟩
    · have f2' : (x.force == 2) = false := by simp [f2]
      by_cases s1 : x.state = 1
      · have s1' : (x.state == 1) = true := by simp [s1]
        have e1 : x.asked now = 1 := by simp [BK.asked, f1, s1]
        have e2 : x.ask now = x := by simp [BK.ask, BK.wakes, s1]
        rw [e1, e2]
        clear f1 f2 s1 e1 e2
        go_enter Tryz.func134, Tryz.ntmps134
        go_wp2
        go_ret
        exact ⟨rfl, HB.out, Frm.refl _ _⟩
      · have s1' : (x.state == 1) = false := by simp [s1]
        by_cases s2 : x.state = 2
        · have s2' : (x.state == 2) = true := by simp [s2]
          have hadd := fun v => add_any x.since x.sleep v hx.since.1 hx.sleep.1 hx.since.2 hx.sleep.2
          by_cases hw : addS x.since x.sleep ≤ now
          · have e1 : x.asked now = 2 := by simp [BK.asked, BK.wakes, f1, f2, s2, hw]
            have e2 : x.ask now = { x with state := 3 } := by simp [BK.ask, BK.wakes, f1, f2, s2, hw]
            rw [e1, e2]
            generalize addS x.since x.sleep = z at *
            have HA := Lib.hid hadd
            clear f1 f2 s1 s2 e1 e2 hadd hx hn
            go_enter Tryz.func134, Tryz.ntmps134
            go_wp2
            have p0 : ∀ p : Later w, p.v.cell? ⟨b, 0, none⟩ = some (.int .u64 x.sleep) := fun p => p.cell c0
            have p2 : ∀ p : Later w, p.v.cell? ⟨b, 2, none⟩ = some (.int .i64 x.state) := fun p => p.cell c2
            have p3 : ∀ p : Later w, p.v.cell? ⟨b, 3, none⟩ = some (.int .u64 x.since) := fun p => p.cell c3
            refine wp_region_later (by kernel_rfl) (by kernel_rfl) ?_
            repeat (go_big_quiet_step (first | (go_at_call 112; with_reducible exact Calls.later_is (HA.out _))))
            refine wpQuiet_nil ?_
            rintro w10 ⟨p10, h10⟩
            have b10 : Below w.heap.size w w10 := h10 ▸ p10.low
            clear h10 p10
            have hb10 := HB.out.below b10
            obtain ⟨d0, d1, d2, d3⟩ := hb10.cells
            have y2 : w10.frozen? ⟨b, 2, none⟩ = false := frozen_of hb10 2
            have HB10 := Lib.hid hb10
            clear hb10 p0 p2 p3
            go_wp2
            go_ret
            exact ⟨rfl, HB10.out.state 3, (Frm.of_below b10).on _ _⟩
          · have e1 : x.asked now = 3 := by simp [BK.asked, BK.wakes, f1, f2, s2, hw]
            have e2 : x.ask now = x := by simp [BK.ask, BK.wakes, f1, f2, s2, hw]
            rw [e1, e2]
            generalize addS x.since x.sleep = z at *
            have HA := Lib.hid hadd
            clear f1 f2 s1 s2 e1 e2 hadd hx hn
            go_enter Tryz.func134, Tryz.ntmps134
            go_wp2
            have p0 : ∀ p : Later w, p.v.cell? ⟨b, 0, none⟩ = some (.int .u64 x.sleep) := fun p => p.cell c0
            have p2 : ∀ p : Later w, p.v.cell? ⟨b, 2, none⟩ = some (.int .i64 x.state) := fun p => p.cell c2
            have p3 : ∀ p : Later w, p.v.cell? ⟨b, 3, none⟩ = some (.int .u64 x.since) := fun p => p.cell c3
            refine wp_region_later (by kernel_rfl) (by kernel_rfl) ?_
            repeat (go_big_quiet_step (first | (go_at_call 112; with_reducible exact Calls.later_is (HA.out _))))
            refine wpQuiet_nil ?_
            rintro _ ⟨⟨w10, b10⟩, rfl⟩
            clear p0 p2 p3
            go_wp2
            go_ret
            exact ⟨rfl, HB.out.below b10, Frm.of_below b10⟩
        · have s2' : (x.state == 2) = false := by simp [s2]
          have e1 : x.asked now = 3 := by simp [BK.asked, BK.wakes, f1, f2, s1, s2]
          have e2 : x.ask now = x := by simp [BK.ask, BK.wakes, s2]
          rw [e1, e2]
          clear f1 f2 s1 s2 e1 e2 hx hn
          go_enter Tryz.func134, Tryz.ntmps134
          go_wp2
          have p2 : ∀ p : Later w, p.v.cell? ⟨b, 2, none⟩ = some (.int .i64 x.state) := fun p => p.cell c2
          refine wp_region_later (by kernel_rfl) (by kernel_rfl) ?_
          repeat (go_big_quiet_step (fail))
          refine wpQuiet_nil ?_
          rintro _ ⟨⟨w10, b10⟩, rfl⟩
          clear p2
          go_wp2
          go_ret
          exact ⟨rfl, HB.out.below b10, Frm.of_below b10⟩
end Go.Proofs.YtgnccpmkdgfjeaaGreat

namespace Go.Proofs.YtgnccpmkdgfjeaaGreat
set_option linter.unusedVariables false
set_option maxRecDepth 100000
open Go.ChangeShapes Go.WideShapes Go.ChangeAt Go.RowKit

/-- What counting may turn. -/
def DB.C (D : DB) (j : Nat) : Prop := j = D.db ∨ j = D.kb ∨ j = D.wb
theorem DB.C_F {D : DB} {j : Nat} (h : D.C j) : D.F j := by
  rcases h with h | h | h
  · exact .inl h
  · exact .inr (.inl h)
  · exact .inr (.inr (.inr (.inl h)))
theorem satS_fit {x : Int} (h : 0 ≤ x) : 0 ≤ satS x ∧ satS x ≤ 18446744073709551615 := satS_bd h
theorem DepM.cnt_fits {w : World} {D : DB} {N : Nat → Prop} {c : Cnf} {S : DS} (h : DepM w D N c S) : (S.cntOf c).Fits := by
  obtain ⟨Z, _, hl⟩ := h.win.blk
  have hn : ∀ k, 0 ≤ tot S.wF S.wt k c.B := fun k => tot_nonneg (fun q => (hl.bd q k).1)
  exact ⟨satS_bd (hn 0), satS_bd (hn 1), satS_bd (hn 2), satS_bd (hn 3), satS_bd (hn 4)⟩
set_option maxHeartbeats 2000000 in
theorem count_own (D : DB) (N : Nat → Prop) (c : Cnf) (S : DS) (now k : Nat) (id : Int) (w : World) (h : DepM w D N c S) (hn : now ≤ 18446744073709551615) (hk : k < 5) (hp : S.pr = id) :
    Calls Tryz.prog 66 #[ptr D.db, .int .u64 now, .int .i64 id, .int .i64 k] w fun r w' => r = .returned (.tuple #[]) ∧ DepM w' D N c (S.count c now id k) ∧ Frm D.C w w' := by
  have hp1 : (S.pr == id) = true := by simp [hp]
  have hc : S.count c now id k = if k = 0 then ((((S.addW c now k).pr_ 0).doneB now true).clear) else (((S.addW c now k).pr_ 0).doneB now false) := by
    unfold DS.count
    rw [if_pos (show (S.addW c now k).pr = id from hp)]
  obtain ⟨U, hU⟩ : ∃ U, S.count c now id k = U := ⟨_, rfl⟩
  rw [hU]
  have HU := Lib.hid (hU.symm.trans hc)
  clear hU
  have H := Lib.hid h
  have HA := Lib.hid (add_win D.wb c.B c.W S.wt now k 1 S.wF w h.win hn hk (by decide) (by decide))
  obtain ⟨_, _, c18, _, _, _, _⟩ := dobj_cells h.blk
  clear h hc
  unfold ptr
  go_enter Tryz.func66, Tryz.ntmps66
  go_wp2_with fail
  refine HA.out.mono ?_
  rintro r w1 ⟨rfl, f1, x1⟩
  have H1 : Hid (DepM w1 D N c (S.addW c now k)) := Lib.hid (H.out.win1 f1 x1)
  have F1 := Lib.hid f1
  obtain ⟨_, _, _, _, _, _, c22⟩ := dobj_cells H1.out.blk
  have c22' : w1.cell? ⟨D.db, 22, none⟩ = some (.int .i64 S.pr) := c22
  clear f1 x1 HA c18 c22
  by_cases hk0 : k = 0
  · subst hk0
    go_wp2_with (first
      | (refine wpList_store_one rfl 3 _ _ rfl D.db 22 114 (depV D c S.pr) (.int .i64 0) rfl rfl ?hz (by show 22 < 23; decide) size1p rfl rfl ?_; (case hz => exact H1.out.blk); intro w2 k2 f2 _;
         have H2 : Hid (DepM w2 D N c ((S.addW c now 0).pr_ 0)) := Lib.hid (H1.out.pr2 f2 k2); have F2 := Lib.hid f2; clear k2 f2 c22';
         obtain ⟨d0, _, d18, _, _, _, _⟩ := dobj_cells H2.out.blk)
      | (go_at_call 121; refine (done_brk D.kb now true _ w2 H2.out.brk).mono ?_; rintro r w3 ⟨rfl, x3, f3⟩;
         have H3 : Hid (DepM w3 D N c (((S.addW c now 0).pr_ 0).doneB now true)) := Lib.hid (H2.out.brk1 f3 x3); have F3 := Lib.hid f3; clear x3 f3 d0 d18;
         obtain ⟨_, _, e18, _, _, _, _⟩ := dobj_cells H3.out.blk)
      | (go_at_call 122; refine (reset_win D.wb c.B c.W _ _ w3 H3.out.win).mono ?_; rintro r w4 ⟨rfl, f4, x4⟩;
         have H4 : Hid (DepM w4 D N c ((((S.addW c now 0).pr_ 0).doneB now true).clear)) := Lib.hid (H3.out.win1 f4 x4); have F4 := Lib.hid f4; clear x4 f4 e18))
    refine bodyPost_end (results_none rfl _ _ _) rfl ?_
    refine ⟨rfl, by rw [HU.out]; first | (rw [if_pos rfl]; exact H4.out) | (rw [if_pos trivial]; exact H4.out), ?_⟩
    have g1 := F1.out.mono (F' := D.C) (fun j _ e => .inr (.inr e))
    have g2 := F2.out.mono (F' := D.C) (fun j _ e => .inl e)
    have g3 := F3.out.mono (F' := D.C) (fun j _ e => .inr (.inl e))
    have g4 := F4.out.mono (F' := D.C) (fun j _ e => .inr (.inr e))
    exact ((g1.trans g2 (fun _ _ h => h)).trans g3 (fun _ _ h => h)).trans g4 (fun _ _ h => h)
  · have hk1 : ((k : Int) == 0) = false := by simp; omega
    go_wp2_with (first
      | (refine wpList_store_one rfl 3 _ _ rfl D.db 22 114 (depV D c S.pr) (.int .i64 0) rfl rfl ?hz (by show 22 < 23; decide) size1p rfl rfl ?_; (case hz => exact H1.out.blk); intro w2 k2 f2 _;
         have H2 : Hid (DepM w2 D N c ((S.addW c now k).pr_ 0)) := Lib.hid (H1.out.pr2 f2 k2); have F2 := Lib.hid f2; clear k2 f2 c22';
         obtain ⟨d0, _, d18, _, _, _, _⟩ := dobj_cells H2.out.blk)
      | (go_at_call 121; refine (done_brk D.kb now false _ w2 H2.out.brk).mono ?_; rintro r w3 ⟨rfl, x3, f3⟩;
         have H3 : Hid (DepM w3 D N c (((S.addW c now k).pr_ 0).doneB now false)) := Lib.hid (H2.out.brk1 f3 x3); have F3 := Lib.hid f3; clear x3 f3 d0 d18))
    refine bodyPost_end (results_none rfl _ _ _) rfl ?_
    have HK0 := Lib.hid hk0
    refine ⟨rfl, by rw [HU.out, if_neg HK0.out]; exact H3.out, ?_⟩
    have g1 := F1.out.mono (F' := D.C) (fun j _ e => .inr (.inr e))
    have g2 := F2.out.mono (F' := D.C) (fun j _ e => .inl e)
    have g3 := F3.out.mono (F' := D.C) (fun j _ e => .inr (.inl e))
    exact (g1.trans g2 (fun _ _ h => h)).trans g3 (fun _ _ h => h)
theorem DS.seeW_addW (c : Cnf) (S : DS) (now k : Nat) : max (now / c.W) (S.addW c now k).wt = (S.addW c now k).wt := by
  show max (now / c.W) (max (now / c.W) S.wt) = max (now / c.W) S.wt
  omega
set_option maxHeartbeats 2000000 in
theorem count_else (D : DB) (N : Nat → Prop) (c : Cnf) (S : DS) (now k : Nat) (id : Int) (w : World) (h : DepM w D N c S) (hcf : c.Fits) (hn : now ≤ 18446744073709551615) (hk : k < 5) (hp : S.pr ≠ id) :
    Calls Tryz.prog 66 #[ptr D.db, .int .u64 now, .int .i64 id, .int .i64 k] w fun r w' => r = .returned (.tuple #[]) ∧ DepM w' D N c (S.count c now id k) ∧ Frm D.C w w' := by
  have hp1 : (S.pr == id) = false := by simp [hp]
  have hc : S.count c now id k = if (S.addW c now k).opens c then (S.addW c now k).tripB now else S.addW c now k := by
    unfold DS.count
    rw [if_neg (show ¬ (S.addW c now k).pr = id from hp)]
  obtain ⟨U, hU⟩ : ∃ U, S.count c now id k = U := ⟨_, rfl⟩
  rw [hU]
  have HU := Lib.hid (hU.symm.trans hc)
  clear hU
  have H := Lib.hid h
  have HA := Lib.hid (add_win D.wb c.B c.W S.wt now k 1 S.wF w h.win hn hk (by decide) (by decide))
  obtain ⟨_, _, c18, _, _, _, _⟩ := dobj_cells h.blk
  clear h hc
  unfold ptr
  go_enter Tryz.func66, Tryz.ntmps66
  go_wp2_with fail
  refine HA.out.mono ?_
  rintro r w1 ⟨rfl, f1, x1⟩
  have H1 : Hid (DepM w1 D N c (S.addW c now k)) := Lib.hid (H.out.win1 f1 x1)
  have F1 := Lib.hid f1
  obtain ⟨_, _, _, _, _, _, c22⟩ := dobj_cells H1.out.blk
  have c22' : w1.cell? ⟨D.db, 22, none⟩ = some (.int .i64 S.pr) := c22
  clear f1 x1 HA c18 c22
  go_wp2
  obtain ⟨T, hT⟩ : ∃ T, S.addW c now k = T := ⟨_, rfl⟩
  have hse : max (now / c.W) T.wt = T.wt := by rw [← hT]; exact DS.seeW_addW c S now k
  rw [hT] at H1 HU
  have C18 : ∀ p : InC (fun v => DepM v D N c T ∧ Frm (· = D.wb) w1 v), p.v.cell? ⟨D.db, 18, none⟩ = some (.pointer (some ⟨D.wb, 0, none⟩)) := fun p => (dobj_cells p.ok.1.blk).2.2.1
  have CNF : ∀ p : InC (fun v => DepM v D N c T ∧ Frm (· = D.wb) w1 v), (Instr.loadAt 24 (.pointer (some ⟨D.db, 2, none⟩))).run Tryz.prog p.v = .ok (.agg (aggV c.vals)) p.v := fun p => by
    obtain ⟨fs, hu⟩ := undC
    exact run_loadAt_mid p.v D.db 2 _ c.vals _ (dobj_range p.ok.1.blk) hu rfl (sizeC c)
  have PC : Hid (∀ p : InC (fun v => DepM v D N c T ∧ Frm (· = D.wb) w1 v), Calls Tryz.prog 59 #[.pointer (some ⟨D.wb, 0, none⟩), .int .u64 now] p.v fun r w' => r = .returned (.agg (aggV (T.cntOf c).vals)) ∧ (DepM w' D N c T ∧ Frm (· = D.wb) w1 w')) :=
    Lib.hid (fun p => (counts_win D.wb c.B c.W T.wt now T.wF p.v p.ok.1.win hn).mono (by
      rintro r w' ⟨rfl, f2, x2⟩
      rw [hse] at x2 ⊢
      exact ⟨rfl, p.ok.1.win1 f2 x2, p.ok.2.trans f2 (fun _ _ e => e)⟩))
  have PO : Hid (∀ p : InC (fun v => DepM v D N c T ∧ Frm (· = D.wb) w1 v), Calls Tryz.prog 123 #[.agg (aggV (T.cntOf c).vals), .agg (aggV c.vals)] p.v fun r w' => r = .returned (.bool (T.opens c)) ∧ (DepM w' D N c T ∧ Frm (· = D.wb) w1 w')) :=
    Lib.hid (fun p => (opens_any (T.cntOf c) c p.v p.ok.1.cnt_fits hcf).mono (by
      rintro r w' ⟨rfl, b2⟩
      exact ⟨rfl, p.ok.1.below b2, p.ok.2.then_below b2⟩))
  have h0 : DepM w1.drew D N c T ∧ Frm (· = D.wb) w1 w1.drew := ⟨H1.out.ali (drew_ali _), Frm.of_ali (drew_ali _)⟩
  have H0 := Lib.hid h0
  clear h0 c22' hse
  haveI hne : Nonempty (InC (fun v => DepM v D N c T ∧ Frm (· = D.wb) w1 v)) := ⟨⟨w1.drew, H0.out⟩⟩
  refine wp_region_in (fun v => DepM v D N c T ∧ Frm (· = D.wb) w1 v) (by kernel_rfl) (by kernel_rfl) H0.out ?_
  try simp only [Act.put]
  repeat (first
    | (refine wpQuiet_loadC rfl 24 _ rfl D.db 2 rfl (.agg (aggV c.vals)) CNF ?_; simp only [Act.put, List.setIfInBounds_toArray, List.set_cons_zero, List.set_cons_succ])
    | go_big_quiet_step (first
      | (go_at_call 59; with_reducible exact Calls.in_of (PC.out _))
      | (go_at_call 123; with_reducible exact Calls.in_of (PO.out _))))
  refine wpQuiet_nil ?_
  rintro w2 ⟨⟨_, b2⟩, rfl⟩
  have H2 : Hid (DepM w2 D N c T) := Lib.hid b2.1
  have F2 : Hid (Frm (· = D.wb) w1 w2) := Lib.hid b2.2
  have G2 : Hid (Frm D.C w w2) := Lib.hid ((F1.out.mono (F' := D.C) (fun j _ e => .inr (.inr e))).trans (F2.out.mono (F' := D.C) (fun j _ e => .inr (.inr e))) (fun _ _ h => h))
  clear C18 CNF PC PO H0 b2
  cases hop : T.opens c with
  | false =>
    have HO := Lib.hid hop
    go_wp2
    refine bodyPost_end (results_none rfl _ _ _) rfl ?_
    exact ⟨rfl, by rw [HU.out, HO.out]; exact H2.out, G2.out⟩
  | true =>
    have HO := Lib.hid hop
    obtain ⟨d0, _, _, _, _, _, _⟩ := dobj_cells H2.out.blk
    go_wp2_with (first
      | (go_at_call 124; refine (trip_brk D.kb now _ w2 H2.out.brk).mono ?_; rintro r w3 ⟨rfl, x3, f3⟩;
         have H3 : Hid (DepM w3 D N c (T.tripB now)) := Lib.hid (H2.out.brk1 f3 x3); have F3 := Lib.hid f3; clear x3 f3 d0))
    refine bodyPost_end (results_none rfl _ _ _) rfl ?_
    exact ⟨rfl, by rw [HU.out, HO.out]; exact H3.out, G2.out.trans (F3.out.mono (F' := D.C) (fun j _ e => .inr (.inl e))) (fun _ _ h => h)⟩
theorem count_any (D : DB) (N : Nat → Prop) (c : Cnf) (S : DS) (now k : Nat) (id : Int) (w : World) (h : DepM w D N c S) (hcf : c.Fits) (hn : now ≤ 18446744073709551615) (hk : k < 5) :
    Calls Tryz.prog 66 #[ptr D.db, .int .u64 now, .int .i64 id, .int .i64 k] w fun r w' => r = .returned (.tuple #[]) ∧ DepM w' D N c (S.count c now id k) ∧ Frm D.C w w' := by
  by_cases hp : S.pr = id
  · exact count_own D N c S now k id w h hn hk hp
  · exact count_else D N c S now k id w h hcf hn hk hp
end Go.Proofs.YtgnccpmkdgfjeaaGreat

namespace Go.Proofs.YtgnccpmkdgfjeaaGreat
set_option linter.unusedVariables false
open Go.ChangeShapes Go.WideShapes Go.ChangeAt Go.RowKit

theorem drop_bul (b : Nat) (f : Fb) (S : BU) (x : Int) (w : World) (h : Bul w b f S) : Calls Tryz.prog 80 #[.pointer (some ⟨b, 0, none⟩), .int .i64 x] w fun r w' => r = .returned (.bool (decide (x ∈ S.wait))) ∧ Bul w' b f (S.drop x) ∧ Frm f.F w w' := by
  obtain ⟨c0, c1⟩ := h.cells
  have HR := Lib.hid (remove_ring f.rb S.que x S.wait w h.rng)
  have H := Lib.hid h
  clear h
  generalize decide (x ∈ S.wait) = t at *
  go_enter Tryz.func80, Tryz.ntmps80
  go_wp2_with fail
  refine HR.out.mono ?_
  rintro r w1 ⟨rfl, hf, hr⟩
  have H1 : Hid (Bul w1 b f (S.drop x)) := Lib.hid (H.out.afterR hf hr (H.out.ok.drop x))
  have HF := Lib.hid (Fb.ofR hf)
  clear hf hr HR c0 c1
  go_wp2
  go_ret
  exact ⟨rfl, H1.out, HF.out⟩
theorem drop_none (x : Int) (w : World) : Calls Tryz.prog 80 #[.pointer none, .int .i64 x] w fun r w' => r = .returned (.bool false) ∧ w = w' := by
  go_enter Tryz.func80, Tryz.ntmps80
  go_wp2
  go_ret
  exact ⟨rfl, rfl⟩

set_option maxHeartbeats 1000000 in
theorem free_not (b : Nat) (f : Fb) (S : BU) (x : Int) (w : World) (h : Bul w b f S) (hx : wf64 x) (hn : x ∉ S.run) : Calls Tryz.prog 63 #[.pointer (some ⟨b, 0, none⟩), .int .i64 x] w fun r w' => r = .returned (.bool false) ∧ Below w.heap.size w w' := by
  have c0 : ∀ p : Later w, p.v.cell? ⟨b, 0, none⟩ = some (.pointer (some ⟨f.pb, 0, none⟩)) := fun p => p.cell h.cells.1
  have PH : Hid (∀ p : Later w, Calls Tryz.prog 79 #[.pointer (some ⟨f.pb, 0, none⟩), .agg #[.int .i64 x, .int .i64 0]] p.v fun r w' => r = .returned (.bool false) ∧ Below p.v.heap.size p.v w') :=
    Lib.hid (fun p => free_no f.pb f.m S.most (hol S.run) x 0 p.v (h.below p.low).prm (wf_h hx) (by rw [mem_hol0]; exact hn))
  clear h hx hn
  go_enter Tryz.func63, Tryz.ntmps63
  go_wp2
  refine wp_region_later (by kernel_rfl) (by kernel_rfl) ?_
  repeat (go_big_quiet_step (first | (go_at_call 118; with_reducible exact Calls.later_of (holder_any x _)) | (go_at_call 79; with_reducible exact Calls.later_of (PH.out _))))
  refine wpQuiet_nil ?_
  rintro _ ⟨⟨w10, b10⟩, rfl⟩
  go_wp2
  go_ret
  exact ⟨rfl, b10⟩
set_option maxHeartbeats 1000000 in
theorem free_one (b : Nat) (f : Fb) (S : BU) (x : Int) (w : World) (h : Bul w b f S) (hx : wf64 x) (hn : x ∈ S.run) : Calls Tryz.prog 63 #[.pointer (some ⟨b, 0, none⟩), .int .i64 x] w fun r w' => r = .returned (.bool true) ∧ Bul w' b f (S.free x) ∧ Frm f.F w w' := by
  have H0 := Lib.hid (h.ali (drew_ali _))
  have HX := Lib.hid hx
  have HN := Lib.hid hn
  clear hx hn h
  go_enter Tryz.func63, Tryz.ntmps63
  go_wp2
  go_region_held3 (fun v => v.cell? ⟨b, 0, none⟩ = some (.pointer (some ⟨f.pb, 0, none⟩)))
    (first
      | with_reducible exact h1.cells.1
      | with_reducible exact h2.cells.1
      | with_reducible exact H0.out.cells.1)
    (first
      | (go_at_call 118; refine (holder_any x _).mono ?_; rintro r w1 ⟨rfl, b1⟩; have h1 := H0.out.below b1)
      | (go_at_call 79; refine (free_yes f.pb f.m S.most (hol S.run) x 0 _ h1.prm (wf_h HX.out) (by rw [mem_hol0]; exact HN.out)).mono ?_; rintro r w2 ⟨rfl, f2, p2⟩; rw [hol_erase h1.ok.nr] at p2; have h2 : Bul w2 b f (S.free x) := h1.afterM f2 p2 (h1.ok.free x)))
  go_wp2
  go_ret
  exact ⟨rfl, h2, (Frm.of_below (F := f.F) ((ali_below (drew_ali w)).trans b1)).trans (Fb.ofM f2) (fun _ _ h => h)⟩
/-- Free, whether it runs or not. -/
theorem free_bul (b : Nat) (f : Fb) (S : BU) (x : Int) (w : World) (h : Bul w b f S) (hx : wf64 x) : Calls Tryz.prog 63 #[.pointer (some ⟨b, 0, none⟩), .int .i64 x] w fun r w' => r = .returned (.bool (decide (x ∈ S.run))) ∧ Bul w' b f (S.free x) ∧ Frm f.F w w' := by
  by_cases hn : x ∈ S.run
  · rw [decide_eq_true hn]
    exact free_one b f S x w h hx hn
  · rw [decide_eq_false hn]
    refine (free_not b f S x w h hx hn).mono ?_
    rintro r w' ⟨rfl, hb⟩
    have e : S.free x = S := by unfold BU.free; rw [List.erase_of_not_mem hn]
    rw [e]
    exact ⟨rfl, h.below hb, Frm.of_below hb⟩
theorem free_nil (x : Int) (w : World) : Calls Tryz.prog 63 #[.pointer none, .int .i64 x] w fun r w' => r = .returned (.bool false) ∧ Below w.heap.size w w' := by
  go_enter Tryz.func63, Tryz.ntmps63
  go_wp2
  refine wp_region_later (by kernel_rfl) (by kernel_rfl) ?_
  repeat (go_big_quiet_step (fail))
  refine wpQuiet_nil ?_
  rintro _ ⟨⟨w10, b10⟩, rfl⟩
  go_wp2
  go_ret
  exact ⟨rfl, b10⟩

theorem pick_nil (w : World) : Calls Tryz.prog 77 #[.pointer none] w fun r w' => r = .returned (.tuple #[.int .i64 0, .bool false]) ∧ w = w' := by
  go_enter Tryz.func77, Tryz.ntmps77
  go_wp2
  go_ret2
  exact ⟨rfl, rfl⟩
theorem pick_full (b : Nat) (f : Fb) (S : BU) (w : World) (h : Bul w b f S) (hr : ¬ S.run.length < S.most) : Calls Tryz.prog 77 #[.pointer (some ⟨b, 0, none⟩)] w fun r w' => r = .returned (.tuple #[.int .i64 0, .bool false]) ∧ Below w.heap.size w w' := by
  obtain ⟨c0, c1⟩ := h.cells
  have hm := room_prm f.pb f.m S.most (hol S.run) w h.prm
  rw [length_hol, decide_eq_false hr] at hm
  have HM := Lib.hid hm
  clear h hr hm
  go_enter Tryz.func77, Tryz.ntmps77
  go_wp2_with fail
  refine HM.out.mono ?_
  rintro r w1 ⟨rfl, ha⟩
  have HA := Lib.hid ha
  clear ha
  go_wp2
  go_ret2
  exact ⟨rfl, ali_below HA.out⟩
theorem pick_idle (b : Nat) (f : Fb) (S : BU) (w : World) (h : Bul w b f S) (hr : S.run.length < S.most) (hw : S.wait = []) : Calls Tryz.prog 77 #[.pointer (some ⟨b, 0, none⟩)] w fun r w' => r = .returned (.tuple #[.int .i64 0, .bool false]) ∧ Below w.heap.size w w' := by
  obtain ⟨c0, c1⟩ := h.cells
  have hm := room_prm f.pb f.m S.most (hol S.run) w h.prm
  rw [length_hol, decide_eq_true hr] at hm
  have HM := Lib.hid hm
  have H := Lib.hid h
  have HW := Lib.hid hw
  clear h hr hm hw
  go_enter Tryz.func77, Tryz.ntmps77
  go_wp2_with fail
  refine HM.out.mono ?_
  rintro r w1 ⟨rfl, ha⟩
  clear c0 c1
  obtain ⟨c0, c1⟩ := (H.out.ali ha).cells
  have hr := (H.out.ali ha).rng
  rw [HW.out] at hr
  have HP := Lib.hid (pop_none f.rb S.que w1 hr)
  have HA := Lib.hid ha
  clear ha hr
  go_wp2_with fail
  refine HP.out.mono ?_
  rintro r w2 ⟨rfl, rfl⟩
  go_wp2
  go_ret2
  exact ⟨rfl, ali_below HA.out⟩
set_option maxHeartbeats 1000000 in
theorem pick_one (b : Nat) (f : Fb) (S : BU) (y : Int) (l : List Int) (w : World) (h : Bul w b f S) (hr : S.run.length < S.most) (hw : S.wait = y :: l) : Calls Tryz.prog 77 #[.pointer (some ⟨b, 0, none⟩)] w fun r w' => r = .returned (.tuple #[.int .i64 y, .bool true]) ∧ Bul w' b f (S.turn y l) ∧ Frm f.F w w' := by
  obtain ⟨c0, c1⟩ := h.cells
  have hm := room_prm f.pb f.m S.most (hol S.run) w h.prm
  rw [length_hol, decide_eq_true hr] at hm
  have HM := Lib.hid hm
  have H := Lib.hid h
  have HW := Lib.hid hw
  have HR := Lib.hid hr
  clear h hr hm hw
  go_enter Tryz.func77, Tryz.ntmps77
  go_wp2_with fail
  refine HM.out.mono ?_
  rintro r w1 ⟨rfl, ha⟩
  clear c0 c1
  have h1 := H.out.ali ha
  obtain ⟨c0, c1⟩ := h1.cells
  have hr := h1.rng
  rw [HW.out] at hr
  have HP := Lib.hid (pop_some f.rb S.que y l w1 hr)
  have HA := Lib.hid ha
  have H1 := Lib.hid h1
  clear ha hr h1
  go_wp2_with fail
  refine HP.out.mono ?_
  rintro r w2 ⟨rfl, f2, r2⟩
  clear c0 c1
  have ok2 : BU.Ok ⟨S.most, S.que, S.run, l⟩ := by
    have hk := H.out.ok.drop y
    have e : S.drop y = ⟨S.most, S.que, S.run, l⟩ := by unfold BU.drop; rw [HW.out, List.erase_cons_head]
    rwa [e] at hk
  have h2 := H1.out.afterR f2 r2 ok2
  have H2 := Lib.hid (h2.ali (drew_ali _))
  have F2 : Hid (Frm f.F w w2) := Lib.hid ((Frm.of_ali HA.out).trans (Fb.ofR f2) (fun _ _ h => h))
  have hwy : wf64 y := H.out.ok.ww y (by rw [HW.out]; simp)
  have HWY := Lib.hid hwy
  have hny : y ∉ S.run := H.out.ok.apart y (by rw [HW.out]; simp)
  have HNY := Lib.hid hny
  clear f2 r2 ok2 h2 HP H1 HM hwy hny
  go_wp2
  go_region_held3 (fun v => v.cell? ⟨b, 0, none⟩ = some (.pointer (some ⟨f.pb, 0, none⟩)))
    (first
      | with_reducible exact h3.cells.1
      | with_reducible exact h4.cells.1
      | with_reducible exact H2.out.cells.1)
    (first
      | (go_at_call 118; refine (holder_any y _).mono ?_; rintro r w3 ⟨rfl, b3⟩; have h3 := H2.out.below b3)
      | (go_at_call 131; refine (take_yes f.pb f.m S.most (hol S.run) y 0 _ h3.prm (wf_h HWY.out) (by rw [length_hol]; exact HR.out) (by rw [mem_hol0]; exact HNY.out)).mono ?_; rintro r w4 ⟨rfl, f4, p4⟩; rw [hol_snoc H.out.ok.nr HNY.out] at p4; have h4 : Bul w4 b f (S.turn y l) := h3.afterM f4 p4 (H.out.ok.turn HW.out HR.out)))
  go_wp2
  go_ret2
  exact ⟨rfl, h4, ((F2.out.ali (drew_ali _)).then_below b3).trans (Fb.ofM f4) (fun _ _ h => h)⟩
/-- Pick, as it comes. -/
theorem pick_bul (b : Nat) (f : Fb) (S : BU) (w : World) (h : Bul w b f S) : Calls Tryz.prog 77 #[.pointer (some ⟨b, 0, none⟩)] w fun r w' => r = .returned (.tuple #[.int .i64 S.first, .bool S.picked]) ∧ Bul w' b f S.pick ∧ Frm f.F w w' := by
  by_cases hr : S.run.length < S.most
  · cases hw : S.wait with
    | nil =>
      refine (pick_idle b f S w h hr hw).mono ?_
      rintro r w' ⟨rfl, hb⟩
      rw [show S.first = 0 by simp [BU.first, hw], show S.picked = false by simp [BU.picked, hw], show S.pick = S by simp [BU.pick, hw]]
      exact ⟨rfl, h.below hb, Frm.of_below hb⟩
    | cons y l =>
      rw [show S.first = y by simp [BU.first, hw, hr], show S.picked = true by simp [BU.picked, hw, hr], show S.pick = S.turn y l by simp [BU.pick, hw, hr]]
      exact pick_one b f S y l w h hr hw
  · refine (pick_full b f S w h hr).mono ?_
    rintro r w' ⟨rfl, hb⟩
    rw [show S.first = 0 by unfold BU.first; split <;> simp [hr], show S.picked = false by unfold BU.picked; split <;> simp [hr], show S.pick = S by unfold BU.pick; split <;> simp [hr]]
    exact ⟨rfl, h.below hb, Frm.of_below hb⟩
end Go.Proofs.YtgnccpmkdgfjeaaGreat

namespace Go.Proofs.YtgnccpmkdgfjeaaGreat
set_option linter.unusedVariables false
set_option maxRecDepth 100000
open Go.ChangeShapes Go.WideShapes Go.ChangeAt Go.RowKit

theorem cmp_int (x y : Int) (w : World) : Calls Tryz.prog 187 #[.int .i64 x, .int .i64 y] w fun r w' => r = .returned (.int .i64 (cmpI x y)) ∧ w' = w := by
  by_cases h1 : x < y
  · have e : cmpI x y = -1 := by simp [cmpI, h1]
    rw [e]
    clear e
    go_enter Tryz.func187, Tryz.ntmps187
    go_wp2
    go_ret
    exact ⟨rfl, rfl⟩
  · by_cases h2 : y < x
    · have e : cmpI x y = 1 := by simp [cmpI, h1, h2]
      rw [e]
      clear e
      go_enter Tryz.func187, Tryz.ntmps187
      go_wp2
      go_ret
      exact ⟨rfl, rfl⟩
    · have e : cmpI x y = 0 := by simp [cmpI, h1, h2]
      rw [e]
      clear e
      go_enter Tryz.func187, Tryz.ntmps187
      go_wp2
      go_ret
      exact ⟨rfl, rfl⟩
theorem or_two (g : Nat) (x y : Int) (w : World) (c0 : w.cell? ⟨g, 0, none⟩ = some (.int .i64 x)) (c1 : w.cell? ⟨g, 1, none⟩ = some (.int .i64 y)) :
    Calls Tryz.prog 186 #[.slice (some ⟨g, 0, none⟩) 2 2] w fun r w' => r = .returned (.int .i64 (if x = 0 then y else x)) ∧ w' = w := by
  by_cases hx : x = 0
  · rw [if_pos hx]
    subst hx
    by_cases hy : y = 0
    · subst hy
      go_enter Tryz.func186, Tryz.ntmps186
      go_wp2
      refine wp_loop_rounds 3 ?_
      repeat any_goals (rw [rounds_succ]; go_wp2)
      go_ret
      exact ⟨rfl, rfl⟩
    · have hy' : (y == 0) = false := by simp [hy]
      clear hy
      go_enter Tryz.func186, Tryz.ntmps186
      go_wp2
      refine wp_loop_rounds 3 ?_
      repeat any_goals (rw [rounds_succ]; go_wp2)
      go_ret
      exact ⟨rfl, rfl⟩
  · rw [if_neg hx]
    have hx' : (x == 0) = false := by simp [hx]
    clear hx
    go_enter Tryz.func186, Tryz.ntmps186
    go_wp2
    refine wp_loop_rounds 3 ?_
    repeat any_goals (rw [rounds_succ]; go_wp2)
    go_ret
    exact ⟨rfl, rfl⟩
set_option maxRecDepth 100000 in
theorem len_small (x : Int) (w : World) (h : 0 ≤ x) (h' : x ≤ 12) : Calls Tryz.prog 180 #[.int .u64 x] w fun r w' => (∃ l : Int, r = .returned (.int .i64 l)) ∧ w = w' := by
  go_enter Tryz.func180, Tryz.ntmps180
  go_wp2
  all_goals go_ret
  all_goals exact ⟨⟨_, rfl⟩, rfl⟩
theorem len_uint (x : Int) (w : World) (h : 0 ≤ x) (h' : x ≤ 12) : Calls Tryz.prog 185 #[.int .u64 x] w fun r w' => (∃ l : Int, r = .returned (.int .i64 l)) ∧ w = w' := by
  have hl := len_small x w h h'
  go_enter Tryz.func185, Tryz.ntmps185
  go_wp2_with (go_at_call 180; refine hl.mono ?_; rintro r w' ⟨⟨l, rfl⟩, rfl⟩)
  go_ret
  exact ⟨⟨_, rfl⟩, rfl⟩

set_option maxHeartbeats 2000000 in
theorem compare_any (a1 a2 b1 b2 : Int) (W : World) : Calls Tryz.prog 179 #[.agg #[.int .i64 a1, .int .i64 a2], .agg #[.int .i64 b1, .int .i64 b2]] W fun r w' => r = .returned (.int .i64 (cmpH (a1, a2) (b1, b2))) ∧ ∃ q os, w' = Sort.grow (W.drewN q) os := by
  have h1 := fun w => cmp_int a1 b1 w
  have h2 := fun w => cmp_int a2 b2 w
  have e : cmpH (a1, a2) (b1, b2) = if cmpI a1 b1 = 0 then cmpI a2 b2 else cmpI a1 b1 := rfl
  have ho := fun (w : World) => or_two w.heap.size (cmpI a1 b1) (cmpI a2 b2) (w.alloc (.cells #[.int .i64 (cmpI a1 b1), .int .i64 (cmpI a2 b2)] 3)) (by rw [cell_of (heap_alloc_at w _)]; rfl) (by rw [cell_of (heap_alloc_at w _)]; rfl)
  rw [← e] at ho
  generalize cmpH (a1, a2) (b1, b2) = r at ho ⊢
  generalize cmpI a1 b1 = r1 at *
  generalize cmpI a2 b2 = r2 at *
  clear e
  have k1 : ((W.alloc (phobj (a1, a2))).alloc (phobj (b1, b2))).drew.heap[W.heap.size]? = some (phobj (a1, a2)) := kb_alloc (heap_alloc_at W _) _
  have k2 : ((W.alloc (phobj (a1, a2))).alloc (phobj (b1, b2))).drew.heap[W.heap.size + 1]? = some (phobj (b1, b2)) := by
    have := heap_alloc_at (W.alloc (phobj (a1, a2))) (phobj (b1, b2))
    rw [show (W.alloc (phobj (a1, a2))).heap.size = W.heap.size + 1 by simp] at this
    exact this
  have kg : ∃ q os, ((W.alloc (phobj (a1, a2))).alloc (phobj (b1, b2))).drew = Sort.grow (W.drewN q) os := ⟨1, _, by rw [Sort.alloc_eq_grow, Sort.alloc_eq_grow, Sort.grow_grow]; rfl⟩
  go_enter Tryz.func179, Tryz.ntmps179
  go_wp2_with fail
  refine region_tail 10 (by kernel_rfl) (by kernel_rfl) ?_
  simp only [List.take_succ_cons, List.take_zero, List.drop_succ_cons, List.drop_zero]
  generalize hwd : ((W.alloc (phobj (a1, a2))).alloc (phobj (b1, b2))).drew = wd at *
  obtain ⟨c0, c1⟩ := hcells k1
  obtain ⟨d0, d1⟩ := hcells k2
  have KG := Lib.hid kg
  clear k1 k2 kg hwd
  repeat still_step
  still_call (h1 _)
  repeat still_step
  still_call (h2 _)
  refine wpStill_nil ?_
  go_wp2_with fail
  refine (ho wd).mono ?_
  rintro r' w' ⟨rfl, rfl⟩
  go_wp2
  go_ret
  refine ⟨rfl, ?_⟩
  obtain ⟨q, os, e⟩ := KG.out
  rw [e, Sort.alloc_eq_grow, Sort.grow_grow]
  exact ⟨q, _, rfl⟩

/-- The laying of the library's insertion sort at this program. -/
def sortRen : Go.Shelf.Ren := ⟨fun | 20 => 189 | n => n, fun | 24 => 163 | 22 => 260 | 3 => 3 | 25 => 276 | 4 => 4 | 0 => 0 | n => n, fun n => n⟩
theorem sortLays : SlLaysF0.n20 Tryz.prog sortRen where
  mixed := by kernel_rfl
  f20 := ⟨Tryz.f189.name, by decide, Tryz.func189.trans (congrArg some (by kernel_rfl))⟩
  t0 := Tryz.underlying0
  a0 := Tryz.isAgg0
  z0 := Tryz.sizeOf0
  v0 := Tryz.zeroValue0
  t3 := Tryz.underlying3
  a3 := Tryz.isAgg3
  z3 := Tryz.sizeOf3
  v3 := Tryz.zeroValue3
  t4 := Tryz.underlying4
  a4 := Tryz.isAgg4
  z4 := Tryz.sizeOf4
  v4 := Tryz.zeroValue4
  t22 := Tryz.underlying260
  a22 := Tryz.isAgg260
  z22 := Tryz.sizeOf260
  v22 := Tryz.zeroValue260
  t25 := Tryz.underlying276
  a25 := Tryz.isAgg276
  z25 := Tryz.sizeOf276
  v25 := Tryz.zeroValue276
def encH (h : Hol) : List Value := [.int .i64 h.1, .int .i64 h.2]
theorem cmpLays (blk off size : Nat) (w : World) : CmpLays Tryz.prog 179 #[] encH 2 cmpH blk off size w :=
  fun _ _ _ _ x y => compare_any x.1 x.2 y.1 y.2 _
theorem lt_cmpH : ltOf cmpH = ltH := by funext a b; exact cmpH_lt a b
theorem swoH : Sort.SWO ltH where
  irrefl := ltH_irrefl
  trans := fun _ _ _ h k => ltH_trans h k
  ntrans := fun _ _ _ h k => by rw [ltH_not] at *; omega
theorem ins_any (blk off cap : Nat) (d : Array Hol) (w : World) (hH : Sort.HoldsK encH 2 w blk off d) (hblk : blk < w.heap.size) (h12 : d.size ≤ 12) :
    Calls Tryz.prog 189 #[.slice (some ⟨blk, off, none⟩) d.size cap, .int .i64 0, .int .i64 d.size, .func (.func 179) #[] #[]] w fun r w' => r = .returned (.tuple #[]) ∧ ∃ n os, w' = sortWorldK encH 2 w blk off n (Sort.insertionSort ltH d 0 d.size) os := by
  have eg : ∀ args w, (callFunc 179 args).run Tryz.prog w = .ok (.enter 179 args) w := enters_of Tryz.func179 (by kernel_rfl) rfl
  have := AnyQ.insertionSortCmpFunc sortLays 2 Tryz.isAgg163 Tryz.sizeOf163 encH (fun _ => rfl) (fun x v hv => by simp [encH] at hv; rcases hv with rfl | rfl <;> rfl) cmpH 179 #[] blk off cap 0 d.size d w eg (cmpLays blk off d.size w) hH hblk (Nat.zero_le _) (Nat.le_refl _) (by omega)
  rw [lt_cmpH] at this
  exact this
end Go.Proofs.YtgnccpmkdgfjeaaGreat

namespace Go.Proofs.YtgnccpmkdgfjeaaGreat
set_option linter.unusedVariables false
open Go.ChangeShapes Go.WideShapes Go.ChangeAt Go.RowKit

section
variable {α : Type} [Inhabited α] {R : Rec α} {w w' : World} {base : Nat} {e : TypeId} {v : Value} {V U : List α}
theorem flatK_list (R : Rec α) (V : List α) : (Sort.flatK R.cells R.size V.toArray).toList = R.flat V := by
  have hlen : (Sort.flatK R.cells R.size V.toArray).toList.length = (R.flat V).length := by rw [Array.length_toList, Sort.size_flatK, R.flat_length]; simp
  refine List.ext_getElem hlen fun t h1 h2 => ?_
  rw [R.flat_length] at h2
  have hpos := R.pos
  have hd : t / R.size < V.length := (Nat.div_lt_iff_lt_mul hpos).2 h2
  have hm : t % R.size < R.size := Nat.mod_lt _ hpos
  have e1 := Sort.get_flatK R.cells R.size V.toArray t (by simpa using h2)
  rw [getElem!_pos _ t (by rw [Sort.size_flatK]; simpa using h2)] at e1
  simp only [Array.getElem_toList]
  rw [e1]
  have hV : V[t / R.size]? = some V[t / R.size] := List.getElem?_eq_getElem hd
  have hget : V.toArray[t / R.size]! = V[t / R.size] := by rw [getElem!_pos _ _ (by simpa using hd)]; simp
  rw [hget]
  have hc : (R.cells V[t / R.size])[t % R.size]? = some ((R.cells V[t / R.size])[t % R.size]'(by rw [R.len]; exact hm)) := List.getElem?_eq_getElem _
  have h3 := R.flat_at hV hc
  rw [show t / R.size * R.size + t % R.size = t by rw [Nat.mul_comm]; exact Nat.div_add_mod t R.size] at h3
  have h4 := List.getElem?_eq_some_iff.1 h3
  obtain ⟨_, h4⟩ := h4
  rw [h4, getElem!_pos _ _ (by rw [R.len]; exact hm)]
theorem holds_own {g : Nat} {cur : Array Value} (hg : w.heap[g]? = some (.cells cur e (0, 0))) (ht : cur.toList.take (V.length * R.size) = R.flat V) : Sort.HoldsK R.cells R.size w g 0 V.toArray := by
  intro j hj
  refine ⟨?_, frozen_of hg _⟩
  have hj' : j < V.length * R.size := by rw [Sort.size_flatK] at hj; simpa using hj
  rw [cell_of hg, Nat.zero_add, ← Array.getElem?_toList, ← List.getElem?_take_of_lt hj', ht, ← flatK_list R V, Array.getElem?_toList, Array.getElem?_eq_getElem hj, getElem!_pos (Sort.flatK R.cells R.size V.toArray) j hj]
  rfl
/-- What the sort leaves: the records d', in the same block; new blocks behind. -/
theorem own_sorted {g cap n : Nat} {cur : Array Value} {d' : Array α} {os : Array Obj} (hb : base ≤ g) (hg : w.heap[g]? = some (.cells cur e (0, 0))) (hnc : V.length ≤ cap) (hcm : cap ≤ maxLen) (hcs : cur.size = cap * R.size) (hd : d'.toList.length = V.length) :
    OwnR R (sortWorldK R.cells R.size w g 0 n d' os) base e (.slice (some ⟨g, 0, none⟩) V.length cap) d'.toList ∧ Frm (· = g) w (sortWorldK R.cells R.size w g 0 n d' os) := by
  have hlt := heap_lt hg
  have hF : (Sort.flatK R.cells R.size d').toList = R.flat d'.toList := by have := flatK_list R d'.toList; simpa using this
  have hsz : (Sort.flatK R.cells R.size d').size = V.length * R.size := by rw [Sort.size_flatK, ← Array.length_toList, hd]
  have hle : V.length * R.size ≤ cur.size := by rw [hcs]; exact Nat.mul_le_mul_right _ hnc
  have hhp : (sortWorldK R.cells R.size w g 0 n d' os).heap[g]? = some (.cells (Sort.putCells id 0 (Sort.flatK R.cells R.size d') cur) e (0, 0)) := by
    unfold sortWorldK
    rw [Sort.heap_grow_old _ _ (by rw [Sort.size_putRowK]; exact hlt)]
    show (w.heap.modify g (Sort.onCells _))[g]? = _
    rw [Array.getElem?_modify, if_pos rfl, hg]
    rfl
  constructor
  · refine ⟨⟨R.flat_length _, .inr ⟨g, cap, _, by rw [hd], hb, hhp, by rw [hd]; exact hnc, hcm, by simp [Sort.putCells, hcs], ?_⟩⟩, by rw [hd]; omega⟩
    rw [← hF, hd]
    refine List.ext_getElem (by simp [Sort.putCells, hsz]; omega) fun t h1 h2 => ?_
    have h2' : t < (Sort.flatK R.cells R.size d').size := by simpa using h2
    rw [List.getElem_take]
    simp only [Sort.putCells, Array.getElem_toList, Array.getElem_mapIdx, Nat.zero_add, Nat.zero_le, true_and, Nat.sub_zero, id]
    rw [if_pos h2', getElem!_pos (Sort.flatK R.cells R.size d') t h2']
  · refine ⟨rfl, rfl, rfl, by unfold sortWorldK; rw [Sort.size_grow, Sort.size_putRowK]; exact Nat.le_add_right _ _, fun j hj hn => ?_⟩
    unfold sortWorldK
    rw [Sort.heap_grow_old _ _ (by rw [Sort.size_putRowK]; exact hj)]
    show (w.heap.modify g (Sort.onCells _))[j]? = _
    rw [Array.getElem?_modify, if_neg (fun e => hn e.symm)]
end
end Go.Proofs.YtgnccpmkdgfjeaaGreat

namespace Go.Proofs.YtgnccpmkdgfjeaaGreat
set_option linter.unusedVariables false
set_option maxRecDepth 100000
open Go.ChangeShapes Go.WideShapes Go.ChangeAt Go.RowKit

def hrec : Rec Hol := rec2 .i64 .i64
/-- The value of compare, as a function. -/
abbrev cmpV : Value := .func (.func 179) #[] #[]
theorem ins_nil (w : World) : Calls Tryz.prog 189 #[.slice none 0 0, .int .i64 0, .int .i64 0, cmpV] w fun r w' => r = .returned (.tuple #[]) ∧ w' = w := by
  go_enter Tryz.func189, Tryz.ntmps189
  go_wp2
  refine wp_loop_rounds 1 ?_
  rw [rounds_succ]
  go_wp2
  go_end0
  exact ⟨rfl, rfl⟩
set_option maxHeartbeats 1000000 in
theorem pdq_nil (lim : Int) (w : World) : Calls Tryz.prog 184 #[.slice none 0 0, .int .i64 0, .int .i64 0, .int .i64 lim, cmpV] w fun r w' => r = .returned (.tuple #[]) ∧ w' = w := by
  have hi := ins_nil w
  go_enter Tryz.func184, Tryz.ntmps184
  go_wp2
  refine wp_loop_rounds 1 ?_
  rw [rounds_succ]
  go_wp2_with (go_at_call 189; refine hi.mono ?_; rintro r w' ⟨rfl, rfl⟩)
  (try simp only [Exit.inBlock, Exit.then])
  refine bodyPost_ret (results_none rfl _ _ _) rfl ?_
  exact ⟨rfl, rfl⟩
set_option maxHeartbeats 1000000 in
theorem pdq_some (blk cap : Nat) (d : Array Hol) (lim : Int) (w : World) (hH : Sort.HoldsK hrec.cells hrec.size w blk 0 d) (hblk : blk < w.heap.size) (h12 : d.size ≤ 12) :
    Calls Tryz.prog 184 #[.slice (some ⟨blk, 0, none⟩) d.size cap, .int .i64 0, .int .i64 d.size, .int .i64 lim, cmpV] w fun r w' => r = .returned (.tuple #[]) ∧ ∃ n os, w' = sortWorldK hrec.cells hrec.size w blk 0 n (Sort.insertionSort ltH d 0 d.size) os := by
  have hi := ins_any blk 0 cap d w hH hblk h12
  change Calls _ _ _ _ fun r w' => r = _ ∧ ∃ n os, w' = sortWorldK hrec.cells hrec.size w blk 0 n _ os at hi
  generalize Sort.insertionSort ltH d 0 d.size = d' at hi ⊢
  clear hH
  go_enter Tryz.func184, Tryz.ntmps184
  go_wp2
  refine wp_loop_rounds 1 ?_
  rw [rounds_succ]
  go_wp2_with (go_at_call 189; refine hi.mono ?_; rintro r w' ⟨rfl, n, os, rfl⟩)
  (try simp only [Exit.inBlock, Exit.then])
  refine bodyPost_ret (results_none rfl _ _ _) rfl ?_
  exact ⟨rfl, n, os, rfl⟩
theorem sort_nil (w : World) : Calls Tryz.prog 178 #[.slice none 0 0, cmpV] w fun r w' => r = .returned (.tuple #[]) ∧ w' = w := by
  have hl := len_uint 0 w (by omega) (by omega)
  have hp := fun lim => pdq_nil lim w
  go_enter Tryz.func178, Tryz.ntmps178
  go_wp2_with (first | (go_at_call 185; refine hl.mono ?_; rintro r w' ⟨⟨l, rfl⟩, rfl⟩) | (go_at_call 184; refine (hp _).mono ?_; rintro r w' ⟨rfl, rfl⟩))
  go_end0
  exact ⟨rfl, rfl⟩
theorem sort_some (blk cap : Nat) (d : Array Hol) (w : World) (hH : Sort.HoldsK hrec.cells hrec.size w blk 0 d) (hblk : blk < w.heap.size) (h12 : d.size ≤ 12) :
    Calls Tryz.prog 178 #[.slice (some ⟨blk, 0, none⟩) d.size cap, cmpV] w fun r w' => r = .returned (.tuple #[]) ∧ ∃ n os, w' = sortWorldK hrec.cells hrec.size w blk 0 n (Sort.insertionSort ltH d 0 d.size) os := by
  have hl := len_uint d.size w (by omega) (by omega)
  have hp := fun lim => pdq_some blk cap d lim w hH hblk h12
  generalize Sort.insertionSort ltH d 0 d.size = d' at hp ⊢
  clear hH
  go_enter Tryz.func178, Tryz.ntmps178
  go_wp2_with (first | (go_at_call 185; refine hl.mono ?_; rintro r w' ⟨⟨l, rfl⟩, rfl⟩) | (go_at_call 184; refine (hp _).mono ?_; rintro r w' ⟨rfl, n, os, rfl⟩))
  go_end0
  exact ⟨rfl, n, os, rfl⟩
/-- Unlike holders, sorted: the rising list of them, in the same block; nothing else has turned. -/
theorem sort_own (base : Nat) (v : Value) (K L : List Hol) (w : World) (own : OwnR hrec w base 163 v K) (h12 : K.length ≤ 12) (hn : K.Nodup) (hL : Rise L) (hm : ∀ x, x ∈ K ↔ x ∈ L) :
    Calls Tryz.prog 178 #[v, cmpV] w fun r w' => r = .returned (.tuple #[]) ∧ OwnR hrec w' base 163 v L ∧ Frm (fun j => v.ownBlock = some j) w w' := by
  rcases own.1.2 with ⟨rfl, h0⟩ | ⟨g, cap, cur, rfl, hb, hg, hnc, hcm, hcs, ht⟩
  · have hK : K = [] := List.eq_nil_of_length_eq_zero h0
    subst hK
    have hL0 : L = [] := by
      cases L with
      | nil => rfl
      | cons x L => have := (hm x).2 (by simp); simp at this
    subst hL0
    refine (sort_nil w).mono ?_
    rintro r w' ⟨rfl, rfl⟩
    exact ⟨rfl, own, Frm.refl _ _⟩
  · have hs := sort_some g cap K.toArray w (holds_own hg ht) (heap_lt hg) (by simpa using h12)
    rw [List.size_toArray] at hs
    refine hs.mono ?_
    rintro r w' ⟨rfl, n, os, rfl⟩
    have h := Sort.insertionSort_holds swoH K.toArray 0 K.toArray.size (Nat.zero_le _) (Nat.le_refl _)
    rw [List.size_toArray] at h
    have he := sorted_rise (d := K.toArray) hL (by simpa using hn) (by simpa using hm) (by rw [List.size_toArray]; exact h.1) (by rw [List.size_toArray]; exact h.2)
    have hlen : (Sort.insertionSort ltH K.toArray 0 K.length).toList.length = K.length := by have := h.1.1; simpa using this
    obtain ⟨h1, h2⟩ := own_sorted (R := hrec) (n := n) (os := os) hb hg hnc hcm hcs hlen
    rw [he] at h1
    refine ⟨rfl, h1, h2.mono (fun j _ hj => by rw [hj]; rfl)⟩

theorem hol_slice : Tryz.prog.underlying 260 = some (.slice 163) := by kernel_rfl
theorem hol_info : (Tryz.prog.info? 163).map (fun i => (i.zero, i.size, i.bytes)) = some (some (.agg #[.int .i64 0, .int .i64 0]), 2, 16) := by kernel_rfl
/-- A slice of holders of the call's own. -/
abbrev HolR (w : World) (base : Nat) (v : Value) (V : List Hol) : Prop := OwnR hrec w base 163 v V
theorem wpList_appH {ops : Array Oper} {rest : List Oper} {o : Oper} {a : Act} {Q : Exit → Act → World → Prop} {w : World} {base m c : Nat} {v : Value} {V U : List Hol} {A : Option Addr} (hg : o.guard = none) (s x : Operand)
    (ho : o.op = .call { callee := .builtin .append, args := #[s, x], argTypes := #[260, 260] })
    (hsv : a.eval s = v) (hxv : a.eval x = .slice A m c) (own : HolR w base v V) (src : RowR hrec w A m U) (hle : V.length + m ≤ 1048576) (hbase : base ≤ w.heap.size)
    (h : ∀ v' w', HolR w' base v' (V ++ U) → w.grownBy w' v.ownBlock → (v'.ownBlock = v.ownBlock ∨ v'.ownBlock = some w.heap.size) → wpList Tryz.prog ops Q rest (a.put o.dst v') w') : wpList Tryz.prog ops Q (o :: rest) a w := by
  obtain ⟨i0, hi0, hz0, hz1, hz2⟩ := info_parts hol_info
  exact wpList_appR hg s x ho hol_slice hi0 hz0 hz1 hz2 rfl (by omega) hsv hxv own src hle hbase h
/-- The holders that have come so far of those that a map has. -/
structure Coll (w wr : World) (m : Nat) (D : DataW Unit) (L : List Hol) (v : Value) (K : List Hol) (left : Lit → Bool) (cnt : Nat) : Prop where
  rg : wr.ranges Tryz.prog 163 unitElem m w.heap.size L.length D left cnt
  own : HolR wr w.heap.size v K
  nod : K.Nodup
  sub : ∀ x ∈ K, x ∈ L
  lft : ∀ x, wfH x → left (hlit x) = (decide (x ∈ L) && !decide (x ∈ K))
  low : Below w.heap.size w wr
  cnt_le : K.length + cnt ≤ L.length
theorem ranges_blocks {w : World} {P : Program} {k : TypeId} {R : Value → Option (DataW Unit × List MemPlace)} {b r n : Nat} {D : DataW Unit} {left : Lit → Bool} {cnt : Nat} (h : w.ranges P k R b r n D left cnt) {j : Nat} {cs : Array Value} {t : TypeId} (hj : w.heap[j]? = some (.cells cs t (0, 0))) : j ≠ b ∧ j ≠ r := by
  obtain ⟨es, clock, since, seen, c0, hb, _, _, _, hr, _⟩ := h
  constructor
  · rintro rfl; rw [hj] at hb; cases hb
  · rintro rfl; rw [hj] at hr; cases hr
theorem Coll.step {w wr w1 w4 : World} {m : Nat} {D : DataW Unit} {L : List Hol} {v v' : Value} {K : List Hol} {left : Lit → Bool} {cnt cnt1 : Nat} {x : Hol} {o o' : Obj} (h : Coll w wr m D L v K left cnt) (hx : wfH x) (hlx : left (hlit x) = true)
    (hrg1 : w1.ranges Tryz.prog 163 unitElem m w.heap.size L.length D (fun z => left z && !z.sameKey (hlit x)) cnt1) (hlt : cnt1 < cnt) (hg1 : wr.grownBy w1 (some w.heap.size))
    (hown : HolR w4 w.heap.size v' (K ++ [x])) (hg : ((w1.alloc o).alloc o').grownBy w4 v.ownBlock) : Coll w w4 m D L v' (K ++ [x]) (fun z => left z && !z.sameKey (hlit x)) cnt1 := by
  have hL := h.lft x hx
  rw [hlx] at hL
  have hxL : x ∈ L := by
    by_cases hc : x ∈ L
    · exact hc
    · simp [hc] at hL
  have hxK : x ∉ K := by
    intro hc
    simp [hc] at hL
  have hr3 := (hrg1.alloc o).alloc o'
  have hlow3 : Below w.heap.size w ((w1.alloc o).alloc o') := by
    have h1 : Below w.heap.size w w1 := h.low.grown hg1 h.low.size (fun j hj => by cases hj; exact Nat.le_refl _)
    have h2 := h1.alloc (o := o) h1.size
    exact h2.alloc (o := o') h2.size
  have hvb : ∀ j, v.ownBlock = some j → w.heap.size ≤ j ∧ j ≠ m ∧ j ≠ w.heap.size := fun j hj => by
    obtain ⟨cs, hcs⟩ := h.own.block hj
    have h4 := ranges_blocks h.rg hcs
    exact ⟨h.own.low j hj, h4.1, h4.2⟩
  refine ⟨hr3.kept hg (fun e => (hvb m e.symm).2.1 rfl) (fun e => (hvb _ e.symm).2.2 rfl), hown, ?_, ?_, fun y hy => ?_, hlow3.trans (grown_below hg hlow3.size (fun j hj => (hvb j hj).1)), ?_⟩
  · rw [List.nodup_append]
    exact ⟨h.nod, by simp, fun a ha b hb => by simp at hb; rw [hb]; rintro rfl; exact hxK ha⟩
  · intro y hy
    rcases List.mem_append.1 hy with hy | hy
    · exact h.sub y hy
    · simp at hy; rw [hy]; exact hxL
  · show (left (hlit y) && !(hlit y).sameKey (hlit x)) = _
    rw [h.lft y hy]
    by_cases hc : y = x
    · subst hc
      have : (hlit y).sameKey (hlit y) = true := by
        rw [hlit]; simp [Lit.sameKey]
      simp [this]
    · have hne : hlit y ≠ hlit x := fun e => hc (hlit_inj hy hx e)
      rw [Maps.sameKey_ne hne]
      simp [hc]
  · have := h.cnt_le
    simp
    omega
theorem all_none (w : World) : Calls Tryz.prog 160 #[.pointer none] w fun r w' => r = .returned (.slice none 0 0) ∧ w' = w := by
  go_enter Tryz.func160, Tryz.ntmps160
  go_wp2
  go_ret
  exact ⟨rfl, rfl⟩
set_option maxHeartbeats 2000000 in
theorem all_prm (b m most : Nat) (L : List Hol) (w : World) (h : Prm w b m most L) :
    Calls Tryz.prog 160 #[.pointer (some ⟨b, 0, none⟩)] w fun r w' => ∃ v, r = .returned v ∧ HolR w' w.heap.size v L ∧ Below w.heap.size w w' := by
  obtain ⟨D, hown, hsz, hhas⟩ := h.mp.ex
  obtain ⟨c0, c1⟩ := h.cells
  have HS := Lib.hid hsz
  have HH := Lib.hid hhas
  have HR := Lib.hid h.rise
  have HWF := Lib.hid h.wf
  have hl8 : L.length ≤ 8 := Nat.le_trans h.le h.le8
  clear h hsz hhas c0
  go_enter Tryz.func160, Tryz.ntmps160
  go_wp2_with (first
    | (at_range; refine wpList_range_own _ rfl _ 180 rfl 163 267 hol_keyed hol_map _ m L.length D rfl hown ?_; intro w0 hrg0 hg0 hs0)
    | go_in)
  go_frame
  have start : Coll w w0 m D L (.slice none 0 0) [] (Maps.has D) (Maps.size D) :=
    ⟨hrg0, OwnR.nil _ _ _, by simp, by simp, fun x hx => by rw [HH.out x hx]; simp, (Below.refl _ _).grown hg0 (Nat.le_refl _) (fun j hj => by cases hj), by rw [HS.out]; simp⟩
  have ST := Lib.hid start
  clear start hrg0 hg0 hs0
  go_loopg [3] L.length (fun k v3 wr => ∃ (left : Lit → Bool) (cnt : Nat) (K : List Hol), cnt ≤ k ∧ Coll w wr m D L v3 K left cnt)
  case atStart => exact ⟨_, _, [], by rw [HS.out]; exact Nat.le_refl _, ST.out⟩
  case round =>
    obtain ⟨left, cnt, K, hk, hc⟩ := hrel
    have HC := Lib.hid hc
    have HK := Lib.hid hk
    have hrg := hc.rg
    clear hc hk
    go_wp2_with (first
      | (at_next; refine wpList_next_ranges _ rfl _ rfl 163 hol_keyed unitElem hv (fun _ : Unit => Value.agg #[]) (fun key kl hkey => by obtain ⟨x, e, _⟩ := hol_key_inv hkey; exact ⟨x, e⟩) (fun v y hv => ⟨(), (unitElem_inv hv).1⟩) m w.heap.size L.length D _ _ rfl hrg ?_ ?_)
      | go_in)
    · intro hc0 hl0
      have hmm : ∀ x, x ∈ K ↔ x ∈ L := fun x => ⟨HC.out.sub x, fun hx => by
        have hl := hl0 (hlit x)
        rw [HC.out.lft x (HWF.out x hx)] at hl
        simpa [hx] using hl⟩
      have hs := sort_own w.heap.size _ K L wr HC.out.own (by have := HC.out.cnt_le; omega) HC.out.nod HR.out hmm
      clear hmm hl0 hc0 hrg
      go_wp2_with fail
      refine hs.mono ?_
      clear hs
      rintro r w2 ⟨rfl, ho, hf⟩
      have HO := Lib.hid ho
      have HB : Hid (Below w.heap.size w w2) := Lib.hid (HC.out.low.trans (hf.below HC.out.low.size (fun j hj e => by have := HC.out.own.low j e; omega)))
      clear ho hf
      go_wp2
      go_ret
      exact ⟨_, rfl, HO.out, HB.out⟩
    · intro a1 a2 kl y ps w1 cnt1 hkey hlx hvx hat hrg1 hlt hg1 hs1 hen
      obtain ⟨x', e, hwx, rfl⟩ := hol_key_inv hkey
      obtain rfl := hv_inj e
      have e1 : (w1.alloc (phobj (a1, a2))).heap.size = w1.heap.size + 1 := by simp
      have src := RowR.one (R := hrec) (w1.alloc (phobj (a1, a2))) ((a1, a2) : Hol) 163 (cs := #[.int .i64 a1, .int .i64 a2]) rfl
      rw [e1] at src
      have own1 : HolR w1 w.heap.size _ K := HC.out.own.frm (Frm.of_grown (F := (· = w.heap.size)) hg1 rfl) (fun j hj cs hcs => (ranges_blocks HC.out.rg hcs).2 hj)
      have own3 := (own1.alloc (phobj (a1, a2))).alloc (phobj (a1, a2))
      have hszw : w.heap.size ≤ ((w1.alloc (phobj (a1, a2))).alloc (phobj (a1, a2))).heap.size := by have := HC.out.low.size; have := hg1.size; simp; omega
      have SRC := Lib.hid src
      have OWN := Lib.hid own3
      have HSZ := Lib.hid hszw
      have HX := Lib.hid hlx
      have HG1 := Lib.hid hg1
      have HRG1 := Lib.hid hrg1
      have HLT := Lib.hid hlt
      unfold hv at hen
      unfold hv
      clear src own1 own3 hszw hlx hg1 hrg1 hlt hrg hkey e hvx hat hs1 e1
      go_wp2_with (first
        | (at_builtin
           refine wpList_appH (base := w.heap.size) rfl (.tmp 16) (.tmp 18) rfl rfl rfl OWN.out SRC.out (by have := HC.out.cnt_le; omega) HSZ.out ?_
           intro v' w4 own' gr' _
           have O4 := Lib.hid own'
           have G4 := Lib.hid gr'
           clear own' gr'))
      go_roundg cnt1
      case measure => have := HK.out; have := HLT.out; omega
      case rel => exact ⟨_, cnt1, K ++ [(a1, a2)], Nat.le_refl _, HC.out.step hwx HX.out HRG1.out HLT.out HG1.out O4.out G4.out⟩
end Go.Proofs.YtgnccpmkdgfjeaaGreat

namespace Go.Proofs.YtgnccpmkdgfjeaaGreat
set_option linter.unusedVariables false
set_option maxRecDepth 100000
open Go.ChangeShapes Go.WideShapes Go.ChangeAt Go.RowKit

/-- The closure that asks for an id. -/
abbrev hasV (g : Nat) : Value := .func (.func 161) #[] #[.pointer (some ⟨g, 0, none⟩)]
theorem RowR.hol_at {w : World} {A : Option Addr} {n : Nat} {V : List Hol} (h : RowR hrec w A n V) {i : Nat} (hi : i < n) : ∃ b off x, A = some ⟨b, off, none⟩ ∧ V[i]? = some x ∧ w.cell? ⟨b, off + i * 2, none⟩ = some (.int .i64 x.1) ∧ w.cell? ⟨b, off + i * 2 + 1, none⟩ = some (.int .i64 x.2) := by
  obtain ⟨b, off, a, hA, hV, _, hc⟩ := h.at_ hi
  exact ⟨b, off, a, hA, hV, hc 0 _ rfl, hc 1 _ rfl⟩
theorem any_take {L : List Hol} {j : Nat} {x : Hol} {id : Int} (hj : L[j]? = some x) (hno : (L.take j).any (fun h => h.1 == id) = false) : (L.take (j + 1)).any (fun h => h.1 == id) = (x.1 == id) := by
  obtain ⟨hlt, he⟩ := List.getElem?_eq_some_iff.1 hj
  rw [List.take_succ_eq_append_getElem hlt, he, List.any_append, hno]
  simp
set_option maxHeartbeats 1000000 in
theorem idx_any (A : Option Addr) (n e : Nat) (L : List Hol) (g : Nat) (id : Int) (w : World) (hr : RowR hrec w A n L) (hg : w.cell? ⟨g, 0, none⟩ = some (.int .i64 id)) (hn : n ≤ 1000) :
    Calls Tryz.prog 177 #[.slice A n e, hasV g] w fun r w' => ∃ k : Int, r = .returned (.int .i64 k) ∧ decide (0 ≤ k) = L.any (fun h => h.1 == id) ∧ Below w.heap.size w w' := by
  have HR := Lib.hid hr
  have HG := Lib.hid hg
  clear hr hg
  go_enter Tryz.func177, Tryz.ntmps177
  go_wp2
  go_loopg [8] n (fun k v8 wr => ∃ j : Nat, j + k = n ∧ v8 = .int .i64 j ∧ (L.take j).any (fun h => h.1 == id) = false ∧ Below w.heap.size w wr)
  case atStart => exact ⟨0, by omega, rfl, by simp, Below.refl _ _⟩
  case round =>
    obtain ⟨j, hj, rfl, hno, hb⟩ := hrel
    have HJ := Lib.hid hj
    have NO := Lib.hid hno
    have HB := Lib.hid hb
    by_cases hlt : j < n
    · have hlt' : (j : Int) < n := by omega
      obtain ⟨b, off, x, rfl, hV, q0, q1⟩ := (HR.out.later HB.out).hol_at hlt
      have q2 : ∀ o : Obj, (wr.alloc o).cell? ⟨g, 0, none⟩ = some (.int .i64 id) := fun o => cell_alloc (cell_later HB.out HG.out) o
      have HT := Lib.hid (any_take (id := id) hV hno)
      have HS : Hid (x.1 == id → L.any (fun h => h.1 == id) = true) := Lib.hid (fun hc => List.any_eq_true.2 ⟨x, List.mem_of_getElem? hV, hc⟩)
      clear hj hno hb hV
      obtain ⟨x1, x2⟩ := x
      cases hx : (x1 == id) with
      | true =>
        have HX := Lib.hid hx
        go_wp2_with go_in
        go_ret
        exact ⟨(j : Int), rfl, by rw [HS.out HX.out]; exact decide_eq_true (by omega), HB.out.alloc HB.out.size _⟩
      | false =>
        have HX := Lib.hid hx
        go_wp2_with go_in
        go_roundg (n - (j + 1))
        case measure => have := HJ.out; omega
        case rel => exact ⟨j + 1, by omega, by simp, HT.out.trans HX.out, HB.out.alloc HB.out.size _⟩
    · have hlt' : ¬ (j : Int) < n := by omega
      clear hj hno hb
      go_wp2
      go_ret
      have := NO.out
      rw [List.take_of_length_le (by rw [HR.out.1]; omega)] at this
      exact ⟨-1, rfl, by rw [this]; decide, HB.out⟩
theorem cont_any (A : Option Addr) (n e : Nat) (L : List Hol) (g : Nat) (id : Int) (w : World) (hr : RowR hrec w A n L) (hg : w.cell? ⟨g, 0, none⟩ = some (.int .i64 id)) (hn : n ≤ 1000) :
    Calls Tryz.prog 159 #[.slice A n e, hasV g] w fun r w' => r = .returned (.bool (L.any (fun h => h.1 == id))) ∧ Below w.heap.size w w' := by
  have HI := Lib.hid (idx_any A n e L g id w hr hg hn)
  clear hr hg
  go_enter Tryz.func159, Tryz.ntmps159
  go_wp2_with fail
  refine HI.out.mono ?_
  rintro r w1 ⟨k, rfl, hk, hb⟩
  have HK := Lib.hid hk
  have HB := Lib.hid hb
  clear hk hb HI
  go_wp2
  go_ret
  exact ⟨ret_bool HK.out, HB.out⟩
set_option maxHeartbeats 2000000 in
theorem holds_run (D : DB) (N : Nat → Prop) (c : Cnf) (S : DS) (id : Int) (w : World) (h : DepM w D N c S) (hi : wf64 id) (hr : id ∈ S.bul.run) :
    Calls Tryz.prog 119 #[ptr D.db, .int .i64 id] w fun r w' => r = .returned (.bool true) ∧ Below w.heap.size w w' := by
  obtain ⟨g, hg⟩ : ∃ g, w.heap.size = g := ⟨_, rfl⟩
  have h1 := h.below (below_alloc w (.cells #[.int .i64 id] 3))
  have hL : Hid (Below w.heap.size w (w.alloc (.cells #[.int .i64 id] 3))) := Lib.hid (below_alloc w _)
  have k1 := heap_alloc_at w (.cells #[.int .i64 id] 3)
  have hh : Hid (Calls Tryz.prog 119 #[ptr D.db, .int .i64 id] w fun r w' => r = .returned (.bool true) ∧ Below w.heap.size w w') := by
    generalize hw1 : w.alloc (.cells #[.int .i64 id] 3) = w1 at *
    have HW1 := Lib.hid hw1
    have c1 : ∀ p : Later w1, p.v.cell? ⟨D.db, 1, none⟩ = some (.pointer (some ⟨D.ub, 0, none⟩)) := fun p => p.cell (dobj_cells h1.blk).2.1
    have c2 : ∀ p : Later w1, p.v.cell? ⟨g, 0, none⟩ = some (.int .i64 id) := fun p => p.cell (by rw [← hg, cell_of k1]; rfl)
    have PR : Hid (∀ p : Later w1, Calls Tryz.prog 158 #[.pointer (some ⟨D.ub, 0, none⟩), .int .i64 id] p.v fun r w' => r = .returned (.bool true) ∧ Below p.v.heap.size p.v w') :=
      Lib.hid (fun p => by have := runs_bul D.ub D.f S.bul id p.v (h1.below p.low).bul hi; rwa [decide_eq_true hr] at this)
    clear h1 k1 hw1 h
    unfold ptr
    refine Lib.hid ?_
    go_enter Tryz.func119, Tryz.ntmps119
    go_wp2
    rw [HW1.out]
    refine wp_region_later (by kernel_rfl) (by kernel_rfl) ?_
    repeat (first | go_big_quiet_step (first | (go_at_call 158; with_reducible exact Calls.later_of (PR.out _))))
    refine wpQuiet_nil ?_
    rintro _ ⟨⟨w10, b10⟩, rfl⟩
    go_wp2
    go_ret
    exact ⟨rfl, hL.out.trans (b10.mono hL.out.size)⟩
  exact hh.out
set_option maxHeartbeats 2000000 in
theorem holds_fb (D : DB) (N : Nat → Prop) (c : Cnf) (S : DS) (id : Int) (w : World) (h : DepM w D N c S) (hi : wf64 id) (hr : id ∉ S.bul.run) :
    Calls Tryz.prog 119 #[ptr D.db, .int .i64 id] w fun r w' => r = .returned (.bool (S.fb.any (fun h => h.1 == id))) ∧ Below w.heap.size w w' := by
  obtain ⟨g, hg⟩ : ∃ g, w.heap.size = g := ⟨_, rfl⟩
  have h1 := h.below (below_alloc w (.cells #[.int .i64 id] 3))
  have hL : Hid (Below w.heap.size w (w.alloc (.cells #[.int .i64 id] 3))) := Lib.hid (below_alloc w _)
  have k1 := heap_alloc_at w (.cells #[.int .i64 id] 3)
  have hlen : S.fb.length ≤ 8 := Nat.le_trans h.fal.le h.fal.le8
  rw [hg] at k1
  clear h
  obtain ⟨w1, hw1⟩ : ∃ w1, w.alloc (.cells #[.int .i64 id] 3) = w1 := ⟨_, rfl⟩
  rw [hw1] at h1 hL k1
  have HW1 := Lib.hid hw1
  have hC : ∀ wx, Below w1.heap.size w1 wx → wx.cell? ⟨D.db, 1, none⟩ = some (.pointer (some ⟨D.ub, 0, none⟩)) ∧ wx.cell? ⟨D.db, 20, none⟩ = some (.pointer (some ⟨D.fb, 0, none⟩)) ∧ wx.cell? ⟨g, 0, none⟩ = some (.int .i64 id) := fun wx hb =>
    ⟨cell_later hb (dobj_cells h1.blk).2.1, cell_later hb (dobj_cells h1.blk).2.2.2.2.1, cell_later hb (by rw [cell_of k1]; rfl)⟩
  have HC := Lib.hid hC
  have PR : Hid (∀ wx, Below w1.heap.size w1 wx → Calls Tryz.prog 158 #[.pointer (some ⟨D.ub, 0, none⟩), .int .i64 id] wx fun r w' => r = .returned (.bool false) ∧ Below wx.heap.size wx w') :=
    Lib.hid (fun wx hb => by have := runs_bul D.ub D.f S.bul id wx (h1.below hb).bul hi; rwa [decide_eq_false hr] at this)
  have PA : Hid (∀ wx, Below w1.heap.size w1 wx → Calls Tryz.prog 160 #[.pointer (some ⟨D.fb, 0, none⟩)] wx fun r w' => ∃ A n e, r = .returned (.slice A n e) ∧ RowR hrec w' A n S.fb ∧ Below wx.heap.size wx w') :=
    Lib.hid (fun wx hb => (all_prm D.fb D.fm c.fbMax.toNat S.fb wx (h1.below hb).fal).mono (by
      rintro r w' ⟨v, rfl, ho, hb'⟩
      obtain ⟨A, n, e, rfl, hrow, _, _, _⟩ := ho.row'
      exact ⟨A, n, e, rfl, hrow, hb'⟩))
  have HLEN := Lib.hid hlen
  have D0 : Hid (Below w1.heap.size w1 w1.drew) := Lib.hid (ali_below (drew_ali _))
  clear h1 k1 hw1 hC hr hi hlen
  unfold ptr
  go_enter Tryz.func119, Tryz.ntmps119
  go_wp2
  rw [HW1.out]
  go_region_held3 (fun wx => wx.cell? ⟨D.db, 1, none⟩ = some (.pointer (some ⟨D.ub, 0, none⟩)) ∧ wx.cell? ⟨D.db, 20, none⟩ = some (.pointer (some ⟨D.fb, 0, none⟩)) ∧ wx.cell? ⟨g, 0, none⟩ = some (.int .i64 id))
    (first
      | with_reducible exact HC.out _ D0.out
      | with_reducible exact HC.out _ t5
      | with_reducible exact HC.out _ t4
      | with_reducible exact HC.out _ t3)
    (first
      | (go_at_call 159; refine (cont_any A4 n4 e4 S.fb g id _ R4.out (HC.out _ t4).2.2 (by rw [← R4.out.1]; exact Nat.le_trans HLEN.out (by decide))).mono ?_; rintro r w5 ⟨rfl, b5⟩; have t5 := t4.trans (b5.mono t4.size); clear b5)
      | (go_at_call 160; refine (PA.out _ t3).mono ?_; rintro r w4 ⟨A4, n4, e4, rfl, r4, b4⟩; have t4 := t3.trans (b4.mono t3.size); have R4 := Lib.hid r4; clear r4 b4)
      | (go_at_call 158; refine (PR.out _ D0.out).mono ?_; rintro r w3 ⟨rfl, b3⟩; have t3 := D0.out.trans (b3.mono D0.out.size); clear b3))
  all_goals (
    have T5 := Lib.hid t5
    go_wp2
    go_ret
    exact ⟨rfl, hL.out.trans (T5.out.mono hL.out.size)⟩)
theorem holds_any (D : DB) (N : Nat → Prop) (c : Cnf) (S : DS) (id : Int) (w : World) (h : DepM w D N c S) (hi : wf64 id) :
    Calls Tryz.prog 119 #[ptr D.db, .int .i64 id] w fun r w' => r = .returned (.bool (S.holds id)) ∧ Below w.heap.size w w' := by
  by_cases hr : id ∈ S.bul.run
  · rw [show S.holds id = true by unfold DS.holds; simp [hr]]
    exact holds_run D N c S id w h hi hr
  · rw [show S.holds id = S.fb.any (fun h => h.1 == id) by unfold DS.holds; simp [hr]]
    exact holds_fb D N c S id w h hi hr
end Go.Proofs.YtgnccpmkdgfjeaaGreat

namespace Go.Proofs.YtgnccpmkdgfjeaaGreat
set_option linter.unusedVariables false
set_option maxRecDepth 100000
open Go.ChangeShapes Go.WideShapes Go.ChangeAt Go.RowKit

theorem calls_map : Tryz.prog.underlying 112 = some (.map intK.kt 135) := by kernel_rfl
theorem call_zero (w : World) : (zeroValue 135).run Tryz.prog w = .ok (callV none 0 0 none 0 0 ⟨0, 0, 0, 0⟩) w := by kernel_rfl
theorem lead_wf {w : World} {A M : Option Addr} {n c m d : Nat} {zs : List Int} {ms : List P2} (h : Bat w A n c M m d zs ms) : wf64 (leadL ms) := by
  unfold leadL
  cases ms with
  | nil => exact ⟨by decide, by decide⟩
  | cons x l => exact (h.fits x (by simp)).1
theorem frm_turnedM {w w' : World} {m : Nat} (h : w.mapTurned w' m) : Frm (· = m) w w' := Frm.of_grown (F := (· = m)) h.grown rfl
/-- A call is put into the map. -/
theorem DepM.store {w : World} {D : DB} {N N' : Nat → Prop} {c : Cnf} {S : DS} (h : DepM w D N c S) {x : CL} {A M : Option Addr} {n e m d : Nat} (hb : Bat w A n e M m d x.zs x.ms) (ho : OffB N' A n M m) (hN : ∀ j, N' j → N j) (hi : ∀ j, D.F j → N' j) (hl : S.cs.length < maxLen) :
    ∃ w', (Instr.mapUpdate 112 (.map (some D.cm)) (.int .i64 x.id) (callV A n e M m d x.k)).run Tryz.prog w = .ok () w' ∧ DepM w' D N' c (S.put x) ∧ Frm (· = D.cm) w w' := by
  have hw : wf64 x.id := lead_wf hb
  obtain ⟨g, h1, h2⟩ := h.cls
  obtain ⟨w', hr, hm, ht⟩ := h1.store (x := x.id) hw calls_map hl (callV A n e M m d x.k)
  have hf := frm_turnedM ht
  refine ⟨w', hr, h.cls1 hf hN hi ⟨fun y => if y = x.id then some (callV A n e M m d x.k) else g y, ?_, fun id hid => ?_⟩ (put_uni h.uni), hf⟩
  · have e1 : (if (g x.id).isSome then S.cs.length else S.cs.length + 1) = (without S.cs x.id ++ [x]).length := by
      rw [cput_len h.uni]
      have h3 := h2 x.id hw
      cases hc : S.cs.find? (fun y => y.id == x.id) with
      | none => rw [hc] at h3; rw [show g x.id = none from h3]; rfl
      | some y => rw [hc] at h3; obtain ⟨_, _, _, _, _, _, h3, _⟩ := h3; rw [h3]; rfl
    rw [e1] at hm
    exact hm
  · rw [find_put]
    by_cases he : id = x.id
    · simp only [if_pos he]
      exact ⟨A, n, e, M, m, d, rfl, hb.frm hf (ho.mono fun j hj => by rw [hj]; exact hi _ (.inr (.inr (.inr (.inr (.inr (.inr rfl))))))), ho⟩
    · simp only [if_neg he]
      have h3 := (h2 id hid).frm hf (fun j e => by rw [e]; exact h.inN _ (.inr (.inr (.inr (.inr (.inr (.inr rfl)))))))
      cases hc : S.cs.find? (fun y => y.id == id) with
      | none => rw [hc] at h3; exact h3
      | some y =>
        rw [hc] at h3
        obtain ⟨A', n', e', M', m', d', h3, h4, h5⟩ := h3
        exact ⟨A', n', e', M', m', d', h3, h4, h5.mono hN⟩
/-- A call is taken out of the map. -/
theorem DepM.drop {w : World} {D : DB} {N : Nat → Prop} {c : Cnf} {S : DS} (h : DepM w D N c S) {id : Int} (hw : wf64 id) (ty : TypeId) :
    ∃ w', (Builtin.delete_ #[112, 3] ty #[.map (some D.cm), .int .i64 id]).run Tryz.prog w = .ok (.tuple #[]) w' ∧ DepM w' D N c (S.del id) ∧ Frm (· = D.cm) w w' := by
  obtain ⟨g, h1, h2⟩ := h.cls
  obtain ⟨w', hr, hm, ht⟩ := h1.drop (x := id) hw calls_map ty
  have hf := frm_turnedM ht
  refine ⟨w', hr, h.cls1 hf (fun _ hj => hj) h.inN ⟨fun y => if y = id then none else g y, ?_, fun z hz => ?_⟩ (without_uni h.uni), hf⟩
  · have e1 : (if (g id).isSome then S.cs.length - 1 else S.cs.length) = (without S.cs id).length := by
      rw [without_len h.uni]
      have h3 := h2 id hw
      cases hc : S.cs.find? (fun y => y.id == id) with
      | none => rw [hc] at h3; rw [show g id = none from h3]; rfl
      | some y => rw [hc] at h3; obtain ⟨_, _, _, _, _, _, h3, _⟩ := h3; rw [h3]; rfl
    rw [e1] at hm
    exact hm
  · rw [find_without]
    by_cases he : z = id
    · simp only [if_pos he]
      rfl
    · simp only [if_neg he]
      exact (h2 z hz).frm hf (fun j e => by rw [e]; exact h.inN _ (.inr (.inr (.inr (.inr (.inr (.inr rfl)))))))
/-- A call is looked up. -/
theorem DepM.look {w w' : World} {D : DB} {N : Nat → Prop} {c : Cnf} {S : DS} (h : DepM w D N c S) {x : CL} (hx : S.find x.id = some x) (hw : wf64 x.id) (hq : w'.heap[D.cm]? = w.heap[D.cm]?) :
    ∃ A n e M m d, (Instr.lookup 112 (.map (some D.cm)) (.int .i64 x.id) false).run Tryz.prog w' = .ok (callV A n e M m d x.k) w' ∧ Bat w A n e M m d x.zs x.ms ∧ OffB N A n M m := by
  obtain ⟨g, h1, h2⟩ := h.cls
  have h3 := h2 x.id hw
  have hx' : S.cs.find? (fun y => y.id == x.id) = some x := hx
  rw [hx'] at h3
  obtain ⟨A, n, e, M, m, d, hg, hb, ho⟩ := h3
  have := h1.look (x := x.id) hw calls_map (z := callV none 0 0 none 0 0 ⟨0, 0, 0, 0⟩) call_zero hq
  rw [hg] at this
  exact ⟨A, n, e, M, m, d, this, hb, ho⟩

theorem load_call {w : World} {g : Nat} {A M : Option Addr} {n e m d : Nat} {K : CN} (h : w.heap[g]? = some (kobj A n e M m d K)) (ρ : Operand → Value) (o : Oper) {x : Operand} (ho : o.op = .load 135 x) (hx : ρ x = .pointer (some ⟨g, 0, none⟩)) :
    (execOp ρ o).run Tryz.prog w = .ok (.value (callV A n e M m d K)) w := by
  obtain ⟨fs, hu⟩ := undCL
  have := run_loadAt_agg (P := Tryz.prog) w _ g (kvals A n e M m d K) _ h hu rfl sizeCL
  simp [execOp, ho, hx, this]
  rfl
set_option maxHeartbeats 2000000 in
theorem keep_any (D : DB) (N : Nat → Prop) (c : Cnf) (S : DS) (x : CL) (A : Option Addr) (n e : Nat) (M : Option Addr) (m d : Nat) (w : World) (h : DepM w D N c S) (hb : Bat w A n e M m d x.zs x.ms) (ho : OffB N A n M m) (hl : S.cs.length < maxLen) :
    Calls Tryz.prog 64 #[ptr D.db, callV A n e M m d x.k] w fun r w' => r = .returned (.tuple #[]) ∧ DepM w' D N c (S.keep x) ∧ Frm (· = D.cm) w w' := by
  obtain ⟨g, hg⟩ : ∃ g, w.heap.size = g := ⟨_, rfl⟩
  have hw : wf64 x.id := lead_wf hb
  have H := Lib.hid h
  have HB := Lib.hid hb
  have HO := Lib.hid ho
  have HL := Lib.hid hl
  have HW := Lib.hid hw
  clear h hb ho hl hw
  unfold ptr
  by_cases hst : x.k.st = 4
  · have e4 : (x.k.st == 4) = true := by simp [hst]
    cases hho : S.holds x.id with
    | false =>
      have hk : S.keep x = S.del x.id := by unfold DS.keep DS.gone; rw [if_pos (by simp [hst, hho])]
      rw [hk]
      have HH := Lib.hid hho
      clear hk hst hho
      go_enter Tryz.func64, Tryz.ntmps64
      go_wp2_with (first
        | (refine wpList_box_agg rfl 135 _ rfl g hg (kvals A n e M m d x.k) rfl ?_; intro w1 k1 l1 s1;
           have q0 : w1.cell? ⟨g, 0, none⟩ = some (.slice A n e) := vobj_cell k1 rfl; have q1 : w1.cell? ⟨g, 1, none⟩ = some (.slice M m d) := vobj_cell k1 rfl;
           have K1 := Lib.hid k1; have L1 : Hid (Below w.heap.size w w1) := Lib.hid (by rw [hg]; exact l1); clear k1 l1 s1)
        | (go_at_call 73; refine (blead_any A n e M m d x.zs x.ms w1 (HB.out.below L1.out)).mono ?_; rintro r w2 ⟨rfl, l2⟩;
           have K2 := Lib.hid (kb_below K1.out l2); have L2 := Lib.hid (L1.out.trans (l2.mono L1.out.size)); clear q0 q1 l2;
           have q2 : w2.cell? ⟨g, 2, none⟩ = some (.int .i64 x.k.st) := vobj_cell K2.out rfl)
        | (go_at_call 119; refine (holds_any D N c S x.id w2 (H.out.below L2.out) HW.out).mono ?_; rintro r w3 ⟨rfl, l3⟩; rw [HH.out];
           have L3 := Lib.hid (L2.out.trans (l3.mono L2.out.size)); clear l3 q2;
           obtain ⟨_, _, _, _, _, c21, _⟩ := dobj_cells (H.out.below L3.out).blk;
           obtain ⟨w4, hr4, hd4, hf4⟩ := (H.out.below L3.out).drop HW.out 0;
           have HR4 : (Builtin.delete_ #[112, 3] 0 #[.map (some D.cm), .int .i64 (leadL x.ms)]).run Tryz.prog w3 = .ok (.tuple #[]) w4 := hr4;
           have HD4 := Lib.hid hd4; have HF4 := Lib.hid hf4; clear hr4 hd4 hf4))
      refine bodyPost_ret (results_none rfl _ _ _) rfl ?_
      exact ⟨rfl, HD4.out, (Frm.of_below L3.out).trans HF4.out (fun _ _ e => e)⟩
    | true =>
      have hk : S.keep x = S.put x := by unfold DS.keep DS.gone; rw [if_neg (by simp [hho])]
      rw [hk]
      have HH := Lib.hid hho
      clear hk hst hho
      go_enter Tryz.func64, Tryz.ntmps64
      go_wp2_with (first
        | (refine wpList_box_agg rfl 135 _ rfl g hg (kvals A n e M m d x.k) rfl ?_; intro w1 k1 l1 s1;
           have q0 : w1.cell? ⟨g, 0, none⟩ = some (.slice A n e) := vobj_cell k1 rfl; have q1 : w1.cell? ⟨g, 1, none⟩ = some (.slice M m d) := vobj_cell k1 rfl;
           have K1 := Lib.hid k1; have L1 : Hid (Below w.heap.size w w1) := Lib.hid (by rw [hg]; exact l1); clear k1 l1 s1)
        | (go_at_call 73; refine (blead_any A n e M m d x.zs x.ms w1 (HB.out.below L1.out)).mono ?_; rintro r w2 ⟨rfl, l2⟩;
           have K2 := Lib.hid (kb_below K1.out l2); have L2 := Lib.hid (L1.out.trans (l2.mono L1.out.size)); clear q0 q1 l2;
           have q2 : w2.cell? ⟨g, 2, none⟩ = some (.int .i64 x.k.st) := vobj_cell K2.out rfl)
        | (go_at_call 119; refine (holds_any D N c S x.id w2 (H.out.below L2.out) HW.out).mono ?_; rintro r w3 ⟨rfl, l3⟩; rw [HH.out];
           have K3 := Lib.hid (kb_below K2.out l3); have L3 := Lib.hid (L2.out.trans (l3.mono L2.out.size)); clear l3 q2))
      have DD : Hid (Below w.heap.size w w3.drew) := Lib.hid (below_ali L3.out (drew_ali _))
      have KD : Hid (w3.drew.heap[g]? = some (kobj A n e M m d x.k)) := K3
      generalize hwd : w3.drew = wd at *
      have HWD := Lib.hid hwd
      obtain ⟨_, _, _, _, _, c21, _⟩ := dobj_cells (H.out.below DD.out).blk
      have HKL := Lib.hid (fun (ρ : Operand → Value) (o : Oper) (ho : o.op = .load 135 (.tmp 3)) (hx : ρ (.tmp 3) = .pointer (some ⟨g, 0, none⟩)) => load_call KD.out ρ o ho hx)
      obtain ⟨w4, hr4, hd4, hf4⟩ := (H.out.below DD.out).store (N' := N) (HB.out.below DD.out) HO.out (fun _ h => h) H.out.inN HL.out
      have HR4 : (Instr.mapUpdate 112 (.map (some D.cm)) (.int .i64 (leadL x.ms)) (callV A n e M m d x.k)).run Tryz.prog wd = .ok () w4 := hr4
      have HD4 := Lib.hid hd4
      have HF4 := Lib.hid hf4
      clear hwd hr4 hd4 hf4 K3
      refine region_tail 6 (by kernel_rfl) (by kernel_rfl) ?_
      simp only [List.take_succ_cons, List.take_zero, List.drop_succ_cons, List.drop_zero]
      rw [HWD.out]
      repeat still_step
      try (refine wpStill_run rfl (callV A n e M m d x.k) (HKL.out _ _ rfl rfl) ?_)
      refine wpStill_nil ?_
      go_wp2
      refine bodyPost_end (results_none rfl _ _ _) rfl ?_
      exact ⟨rfl, HD4.out, (Frm.of_below DD.out).trans HF4.out (fun _ _ e => e)⟩
  · have e4 : (x.k.st == 4) = false := by simp [hst]
    have hk : S.keep x = S.put x := by unfold DS.keep DS.gone; rw [if_neg (by simp [hst])]
    rw [hk]
    clear hk hst
    go_enter Tryz.func64, Tryz.ntmps64
    go_wp2_with (first
      | (refine wpList_box_agg rfl 135 _ rfl g hg (kvals A n e M m d x.k) rfl ?_; intro w1 k1 l1 s1;
         have q0 : w1.cell? ⟨g, 0, none⟩ = some (.slice A n e) := vobj_cell k1 rfl; have q1 : w1.cell? ⟨g, 1, none⟩ = some (.slice M m d) := vobj_cell k1 rfl;
         have K1 := Lib.hid k1; have L1 : Hid (Below w.heap.size w w1) := Lib.hid (by rw [hg]; exact l1); clear k1 l1 s1)
      | (go_at_call 73; refine (blead_any A n e M m d x.zs x.ms w1 (HB.out.below L1.out)).mono ?_; rintro r w3 ⟨rfl, l2⟩;
         have K3 := Lib.hid (kb_below K1.out l2); have L3 := Lib.hid (L1.out.trans (l2.mono L1.out.size)); clear q0 q1 l2;
         have q2 : w3.cell? ⟨g, 2, none⟩ = some (.int .i64 x.k.st) := vobj_cell K3.out rfl))
    have DD : Hid (Below w.heap.size w w3.drew) := Lib.hid (below_ali L3.out (drew_ali _))
    have KD : Hid (w3.drew.heap[g]? = some (kobj A n e M m d x.k)) := K3
    generalize hwd : w3.drew = wd at *
    have HWD := Lib.hid hwd
    obtain ⟨_, _, _, _, _, c21, _⟩ := dobj_cells (H.out.below DD.out).blk
    have HKL := Lib.hid (fun (ρ : Operand → Value) (o : Oper) (ho : o.op = .load 135 (.tmp 3)) (hx : ρ (.tmp 3) = .pointer (some ⟨g, 0, none⟩)) => load_call KD.out ρ o ho hx)
    obtain ⟨w4, hr4, hd4, hf4⟩ := (H.out.below DD.out).store (N' := N) (HB.out.below DD.out) HO.out (fun _ h => h) H.out.inN HL.out
    have HR4 : (Instr.mapUpdate 112 (.map (some D.cm)) (.int .i64 (leadL x.ms)) (callV A n e M m d x.k)).run Tryz.prog wd = .ok () w4 := hr4
    have HD4 := Lib.hid hd4
    have HF4 := Lib.hid hf4
    clear hwd hr4 hd4 hf4 K3
    refine region_tail 6 (by kernel_rfl) (by kernel_rfl) ?_
    simp only [List.take_succ_cons, List.take_zero, List.drop_succ_cons, List.drop_zero]
    rw [HWD.out]
    repeat still_step
    try (refine wpStill_run rfl (callV A n e M m d x.k) (HKL.out _ _ rfl rfl) ?_)
    refine wpStill_nil ?_
    go_wp2
    refine bodyPost_end (results_none rfl _ _ _) rfl ?_
    exact ⟨rfl, HD4.out, (Frm.of_below DD.out).trans HF4.out (fun _ _ e => e)⟩
end Go.Proofs.YtgnccpmkdgfjeaaGreat

namespace Go.Proofs.YtgnccpmkdgfjeaaGreat
set_option linter.unusedVariables false
set_option maxRecDepth 100000
open Go.ChangeShapes Go.WideShapes Go.ChangeAt Go.RowKit

/-- Records of what is to be done. -/
def arec : Rec DA := ⟨fun x => [.bool x.set, .int .i64 x.id, .int .u64 x.due], 3, by decide, fun _ => rfl, fun a u hu => by simp at hu; rcases hu with rfl | rfl | rfl <;> rfl⟩
theorem tA : SlT Tryz.prog arec 55 99 := slT_of (z := .agg #[.bool false, .int .i64 0, .int .u64 0]) (n := 3) (by_ := 24) (by kernel_rfl) (by kernel_rfl) rfl (by decide) rfl
abbrev resO (v o : Value) : Obj := vobj 57 [v, o]
/-- A result by whose outcomes nothing is told yet: its block rb; what is to be done is its own row, made since there were lo blocks. -/
structure ResN (w : World) (rb lo : Nat) (v : Value) (L : List DA) : Prop where
  blk : w.heap[rb]? = some (resO v (.slice none 0 0))
  own : OwnR arec w lo 99 v L
  low : lo ≤ rb
/-- What of it may turn. -/
def RF (rb : Nat) (v : Value) (j : Nat) : Prop := j = rb ∨ v.ownBlock = some j
theorem size1s : (Tryz.prog.info? 55).map (·.size) = some 1 := by kernel_rfl
section
variable {w w' : World} {rb lo : Nat} {v : Value} {L : List DA}
theorem ResN.below (h : ResN w rb lo v L) (hb : Below w.heap.size w w') : ResN w' rb lo v L := ⟨kb_below h.blk hb, h.own.below hb, h.low⟩
theorem ResN.frm {F : Nat → Prop} (h : ResN w rb lo v L) (hf : Frm F w w') (hF : ∀ j, F j → j < lo) : ResN w' rb lo v L :=
  ⟨(hf.block _ (heap_lt h.blk) (fun hc => by have := hF _ hc; have := h.low; omega)).trans h.blk, h.own.frm_low hf hF, h.low⟩
theorem ResN.ty (h : ResN w rb lo v L) : tyAt w rb = some 57 := ty_cells h.blk
theorem ResN.tyA (h : ResN w rb lo v L) {j : Nat} (hj : v.ownBlock = some j) : tyAt w j = some 99 := by
  obtain ⟨cs, hcs⟩ := h.own.block hj
  exact ty_cells hcs
theorem ResN.old (h : ResN w rb lo v L) {j : Nat} (hj : RF rb v j) : lo ≤ j ∧ j < w.heap.size := by
  rcases hj with rfl | hj
  · exact ⟨h.low, heap_lt h.blk⟩
  · obtain ⟨cs, hcs⟩ := h.own.block hj
    exact ⟨h.own.low j hj, heap_lt hcs⟩
/-- The dependency stays when its result turns. -/
theorem DepM.resF {D : DB} {N : Nat → Prop} {c : Cnf} {S : DS} (h : DepM w D N c S) (hr : ResN w rb lo v L) (hf : Frm (RF rb v) w w') (hn : ∀ j, RF rb v j → N j) : DepM w' D N c S := by
  have key : ∀ {j : Nat} {t : Option TypeId}, tyAt w j = t → t ≠ some 57 → t ≠ some 99 → ¬ RF rb v j := by
    rintro j t hj h1 h2 (e | e)
    · exact ty_ne hj hr.ty h1 e
    · exact h2 (hj.symm.trans (hr.tyA e))
  exact h.frm hf hn (key h.tdb (by decide) (by decide)) (key h.tkb (by decide) (by decide)) (key h.tub (by decide) (by decide)) (key h.tpb (by decide) (by decide)) (key h.tm (by simp) (by simp)) (key h.trb (by decide) (by decide)) (key h.twb (by decide) (by decide)) (key h.thb (by decide) (by decide)) (key h.tfb (by decide) (by decide)) (key h.tfm (by simp) (by simp)) (key h.tcm (by simp) (by simp))
end

/-- Behind an append onto what is to be done, and its store. -/
theorem res_end {w w1 w2 w3 : World} {rb lo : Nat} {A A2 : Option Addr} {n e n2 c2 : Nat} {L L2 : List DA} (b1 : Below w.heap.size w w1) (k1 : w1.heap[rb]? = some (resO (.slice A n e) (.slice none 0 0))) (o1 : OwnR arec w1 lo 99 (.slice A n e) L)
    (g2 : w1.grownBy w2 (Value.slice A n e).ownBlock) (e2 : (Value.slice A2 n2 c2).ownBlock = (Value.slice A n e).ownBlock ∨ (Value.slice A2 n2 c2).ownBlock = some w1.heap.size) (k2 : w2.heap[rb]? = some (resO (.slice A n e) (.slice none 0 0))) (o2 : OwnR arec w2 lo 99 (.slice A2 n2 c2) L2)
    (ty : ∀ j, (Value.slice A n e).ownBlock = some j → j ≠ rb) (f3 : Frm (· = rb) w2 w3) (k3 : w3.heap[rb]? = some (resO (.slice A2 n2 c2) (.slice none 0 0))) (lw : lo ≤ rb) :
    Ending.returned (.tuple #[]) = Ending.returned (.tuple #[]) ∧ (∃ v', ResN w3 rb lo v' L2) ∧ Frm (RF rb (.slice A n e)) w w3 := by
  have f2 : Frm (RF rb (.slice A n e)) w1 w2 := ⟨g2.os, g2.tape, g2.output, g2.size, fun j hj hn => g2.block j hj (fun e => hn (.inr e.symm))⟩
  have hne : ∀ j, (· = rb) j → ∀ cs, w2.heap[j]? ≠ some (.cells cs 99 (0, 0)) := by
    rintro j rfl cs hc
    rw [k2] at hc
    injection hc with hc
    injection hc with _ hc
    exact absurd hc (by decide)
  exact ⟨rfl, ⟨_, k3, o2.frm f3 hne, lw⟩, ((Frm.of_below (F := RF rb (.slice A n e)) b1).trans f2 (fun _ _ h => h)).trans f3 (fun _ _ h => .inl h)⟩

set_option maxHeartbeats 1000000 in
theorem stop_any (rb lo : Nat) (v : Value) (L : List DA) (id : Int) (w : World) (h : ResN w rb lo v L) (hl : L.length ≤ 1000) (hlo : lo ≤ w.heap.size) :
    Calls Tryz.prog 65 #[ptr rb, .int .i64 id] w fun r w' => r = .returned (.tuple #[]) ∧ (∃ v', ResN w' rb lo v' (L ++ [⟨false, id, 0⟩])) ∧ Frm (RF rb v) w w' := by
  obtain ⟨A, n, e, rfl, hrow, hn, hne, _⟩ := h.own.row'
  have c0 : w.cell? ⟨rb, 0, none⟩ = some (.slice A n e) := vobj_cell h.blk rfl
  obtain ⟨w1, hw1⟩ : ∃ w1, w.alloc (.cells #[.bool false, .int .i64 id, .int .u64 0] 99) = w1 := ⟨_, rfl⟩
  have k1 := kb_alloc h.blk (.cells #[.bool false, .int .i64 id, .int .u64 0] 99)
  have o1 := h.own.alloc (.cells #[.bool false, .int .i64 id, .int .u64 0] 99)
  have s1 := RowR.one (R := arec) w ⟨false, id, 0⟩ 99 (cs := #[.bool false, .int .i64 id, .int .u64 0]) rfl
  have b1 := below_alloc w (.cells #[.bool false, .int .i64 id, .int .u64 0] 99)
  have z1 : w1.heap.size = w.heap.size + 1 := by rw [← hw1]; simp
  rw [hw1] at k1 o1 s1 b1
  have HW1 := Lib.hid hw1
  have K1 := Lib.hid k1
  have O1 := Lib.hid o1
  have S1 := Lib.hid s1
  have B1 := Lib.hid b1
  have LN : Hid (L.length + 1 ≤ 1048576) := Lib.hid (by omega)
  have LO : Hid (lo ≤ w1.heap.size) := Lib.hid (by omega)
  have LW := Lib.hid h.low
  have TY : Hid (∀ j, (Value.slice A n e).ownBlock = some j → j ≠ rb) := Lib.hid (fun j hj => ty_ne (h.tyA hj) h.ty (by decide))
  clear hrow hn hne hw1 k1 o1 s1 b1 z1 h hl hlo
  unfold ptr
  go_enter Tryz.func65, Tryz.ntmps65
  go_wp2_with (first
    | (rw [HW1.out]; at_builtin; refine wpList_appS tA (v := .slice A n e) (base := lo) rfl (.tmp 8) (.tmp 11) rfl rfl rfl O1.out S1.out LN.out LO.out ?_;
       intro v2 w2 o2 g2 e2; obtain ⟨A2, n2, c2, rfl, _, _, _, _⟩ := o2.row';
       have K2 : Hid (w2.heap[rb]? = some (resO (.slice A n e) (.slice none 0 0))) := Lib.hid ((g2.block rb (heap_lt K1.out) (fun hc => TY.out rb hc.symm rfl)).trans K1.out);
       have O2 := Lib.hid o2; have G2 := Lib.hid g2; have E2 := Lib.hid e2; clear o2 g2 e2)
    | (refine wpList_store_one rfl 55 _ _ rfl rb 0 57 [.slice A n e, .slice none 0 0] (.slice A2 n2 c2) rfl rfl ?hz (by show 0 < 2; decide) size1s rfl rfl ?_; (case hz => exact K2.out); intro w3 k3 f3 _;
       have K3 : Hid (w3.heap[rb]? = some (resO (.slice A2 n2 c2) (.slice none 0 0))) := Lib.hid k3; have F3 := Lib.hid f3; clear k3 f3))
  refine bodyPost_end (results_none rfl _ _ _) rfl ?_
  exact res_end B1.out K1.out O1.out G2.out E2.out K2.out O2.out TY.out F3.out K3.out LW.out

set_option maxHeartbeats 2000000 in
theorem set_any (rb lo : Nat) (v : Value) (L : List DA) (id now t : Int) (w : World) (h : ResN w rb lo v L) (hl : L.length ≤ 1000) (hlo : lo ≤ w.heap.size) (h0 : 0 ≤ now) (h1 : now ≤ 18446744073709551615) (t0 : 0 ≤ t) (t1 : t ≤ 18446744073709551615) :
    Calls Tryz.prog 132 #[ptr rb, .int .i64 id, .int .u64 now, .int .u64 t] w fun r w' => r = .returned (.tuple #[]) ∧ (∃ v', ResN w' rb lo v' (L ++ [⟨true, id, addS now t⟩])) ∧ Frm (RF rb v) w w' := by
  obtain ⟨A, n, e, rfl, hrow, hn, hne, _⟩ := h.own.row'
  have hd := h.below (ali_below (drew_ali w))
  have bd : Below w.heap.size w w.drew := ali_below (drew_ali w)
  obtain ⟨wd, hwd⟩ : ∃ wd, w.drew = wd := ⟨_, rfl⟩
  rw [hwd] at hd bd
  have c0 : wd.cell? ⟨rb, 0, none⟩ = some (.slice A n e) := vobj_cell hd.blk rfl
  obtain ⟨w1, hw1⟩ : ∃ w1, wd.alloc (.cells #[.bool true, .int .i64 id, .int .u64 (addS now t)] 99) = w1 := ⟨_, rfl⟩
  have k1 := kb_alloc hd.blk (.cells #[.bool true, .int .i64 id, .int .u64 (addS now t)] 99)
  have o1 := hd.own.alloc (.cells #[.bool true, .int .i64 id, .int .u64 (addS now t)] 99)
  have s1 := RowR.one (R := arec) wd ⟨true, id, addS now t⟩ 99 (cs := #[.bool true, .int .i64 id, .int .u64 (addS now t)]) rfl
  have b1 := below_alloc wd (.cells #[.bool true, .int .i64 id, .int .u64 (addS now t)] 99)
  have z1 : w1.heap.size = wd.heap.size + 1 := by rw [← hw1]; simp
  rw [hw1] at k1 o1 s1 b1
  have HWD := Lib.hid hwd
  have HW1 := Lib.hid hw1
  have K1 := Lib.hid k1
  have C1 : Hid (w1.cell? ⟨rb, 0, none⟩ = some (.slice A n e)) := Lib.hid (vobj_cell k1 rfl)
  have O1 := Lib.hid o1
  have S1 := Lib.hid s1
  have B1 : Hid (Below w.heap.size w w1) := Lib.hid (bd.trans (b1.mono bd.size))
  have LN : Hid (L.length + 1 ≤ 1048576) := Lib.hid (by omega)
  have LO : Hid (lo ≤ w1.heap.size) := Lib.hid (Nat.le_trans hlo (Nat.le_trans bd.size b1.size))
  have LW := Lib.hid h.low
  have TY : Hid (∀ j, (Value.slice A n e).ownBlock = some j → j ≠ rb) := Lib.hid (fun j hj => ty_ne (h.tyA hj) h.ty (by decide))
  clear hrow hn hne hw1 k1 o1 s1 b1 z1 h hl hlo hd bd hwd
  unfold ptr
  go_enter Tryz.func132, Tryz.ntmps132
  refine wp_region_held_drew (S := fun _ => True) (by kernel_rfl) trivial (fun hHeld => ?_)
  rw [HWD.out]
  refine wpAnyH_take (i := 0) (oi := ⟨_, _, _, _, _, _⟩) (v := ?_) rfl (by kernel_rfl) (by kernel_rfl) (by kernel_rfl) (fun _ _ _ h => h) (Or.inl ⟨by rfl, ?_⟩) (by assumption) ?_
  rotate_left
  · intro w hSw; (try dsimp only at hSw); go_simp; try (with_reducible rfl)
  try go_frame
  refine wpAnyH_take (i := 1) (oi := ⟨_, _, _, _, _, _⟩) (v := ?_) rfl (by kernel_rfl) (by kernel_rfl) (by kernel_rfl) (fun _ _ _ h => h) (Or.inl ⟨by rfl, ?_⟩) (by assumption) ?_
  rotate_left
  · intro w hSw; (try dsimp only at hSw); go_simp; try (with_reducible rfl)
  try go_frame
  refine wpAnyH_take (i := 2) (oi := ⟨_, _, _, _, _, _⟩) (v := ?_) rfl (by kernel_rfl) (by kernel_rfl) (by kernel_rfl) (fun _ _ _ h => h) (Or.inl ⟨by rfl, ?_⟩) (by assumption) ?_
  rotate_left
  · intro w hSw; (try dsimp only at hSw); go_simp; try (with_reducible rfl)
  try go_frame
  refine wpAnyH_take (i := 3) (oi := ⟨_, _, _, _, _, _⟩) (v := ?_) rfl (by kernel_rfl) (by kernel_rfl) (by kernel_rfl) (fun _ _ _ h => h) (Or.inl ⟨by rfl, ?_⟩) (by assumption) ?_
  rotate_left
  · intro w hSw; (try dsimp only at hSw); go_simp; try (with_reducible rfl)
  try go_frame
  refine wpAnyH_take (i := 5) (oi := ⟨_, _, _, _, _, _⟩) (v := ?_) rfl (by kernel_rfl) (by kernel_rfl) (by kernel_rfl) (fun _ _ _ h => h) (Or.inl ⟨by rfl, ?_⟩) (by assumption) ?_
  rotate_left
  · intro w hSw; (try dsimp only at hSw); go_simp; try (with_reducible rfl)
  try go_frame
  refine wpAnyH_take (i := 6) (oi := ⟨_, _, _, _, _, _⟩) (v := ?_) rfl (by kernel_rfl) (by kernel_rfl) (by kernel_rfl) (fun _ _ _ h => h) (Or.inl ⟨by rfl, ?_⟩) (by assumption) ?_
  rotate_left
  · intro w hSw; (try dsimp only at hSw); go_simp; try (with_reducible rfl)
  try go_frame
  refine wpAnyH_take (i := 7) (oi := ⟨_, _, _, _, _, _⟩) (v := ?_) rfl (by kernel_rfl) (by kernel_rfl) (by kernel_rfl) (fun _ _ _ h => h) (Or.inl ⟨by rfl, ?_⟩) (by assumption) ?_
  rotate_left
  · intro w hSw; (try dsimp only at hSw); go_simp; try (with_reducible rfl)
  try go_frame
  refine wpAnyH_ready (rs := [4, 8]) (by kernel_rfl) (by simp) ?_
  refine ready_cons (i := 4) (o := ⟨_, _, _, _, _, _⟩) rfl ?_ (ready_cons (i := 8) (o := ⟨_, _, _, _, _, _⟩) rfl ?_ AllReadyH.nil)
  · intro K hK
    constructor
    go_simp
    refine hK.out _ _ trivial (fun hHeld => ?_)
    clear hK K
    try go_frame
    refine wpAnyH_ready (rs := [8]) (by kernel_rfl) (by simp) ?_
    refine ready_cons (i := 8) (o := ⟨_, _, _, _, _, _⟩) rfl ?_ AllReadyH.nil
    intro K hK
    refine call_step (f := 112) (args := #[.int .u64 now, .int .u64 t]) rfl (by kernel_rfl) ?_
    refine (add_any now t wd h0 t0 h1 t1).mono ?_
    rintro r wz ⟨rfl, hz⟩
    rw [← hz]
    clear hz wz
    refine ⟨_, rfl, ?_⟩
    refine hK.out _ _ trivial (fun hHeld => ?_)
    clear hK K
    try go_frame
    refine wpAnyH_take (i := 9) (oi := ⟨_, _, _, _, _, _⟩) (v := ?_) rfl (by kernel_rfl) (by kernel_rfl) (by kernel_rfl) (fun _ _ _ h => h) (Or.inl ⟨by rfl, ?_⟩) (by assumption) ?_
    rotate_left
    · intro w hSw; (try dsimp only at hSw); go_simp; try (with_reducible rfl)
    try go_frame
    refine wpAnyH_ready (rs := [10]) (by kernel_rfl) (by simp) ?_
    refine ready_cons (i := 10) (o := ⟨_, _, _, _, _, _⟩) rfl ?_ AllReadyH.nil
    intro K hK
    constructor
    go_simp
    rw [HW1.out]
    refine hK.out _ _ trivial (fun hHeld => ?_)
    clear hK K
    have c1 := C1.out
    try go_frame
    refine wpAnyH_ready (rs := [11]) (by kernel_rfl) (by simp) ?_
    refine ready_cons (i := 11) (o := ⟨_, _, _, _, _, _⟩) rfl ?_ AllReadyH.nil
    intro K hK
    refine Stepping.mk (appS_step tA (v := .slice A n e) (base := lo) rfl (.tmp 12) (.tmp 18) rfl rfl rfl O1.out S1.out LN.out LO.out ?_)
    intro v2 w2 o2 g2 e2
    obtain ⟨A2, n2, c2, rfl, _, _, _, _⟩ := o2.row'
    have K2 : Hid (w2.heap[rb]? = some (resO (.slice A n e) (.slice none 0 0))) := Lib.hid ((g2.block rb (heap_lt K1.out) (fun hc => TY.out rb hc.symm rfl)).trans K1.out)
    have O2 := Lib.hid o2
    have G2 := Lib.hid g2
    have E2 := Lib.hid e2
    clear o2 g2 e2
    refine hK.out _ _ trivial (fun hHeld => ?_)
    clear hK K
    try go_frame
    refine wpAnyH_take (i := 12) (oi := ⟨_, _, _, _, _, _⟩) (v := ?_) rfl (by kernel_rfl) (by kernel_rfl) (by kernel_rfl) (fun _ _ _ h => h) (Or.inl ⟨by rfl, ?_⟩) (by assumption) ?_
    rotate_left
    · intro w hSw; (try dsimp only at hSw); go_simp; try (with_reducible rfl)
    try go_frame
    refine wpAnyH_take (i := 13) (oi := ⟨_, _, _, _, _, _⟩) (v := ?_) rfl (by kernel_rfl) (by kernel_rfl) (by kernel_rfl) (fun _ _ _ h => h) (Or.inl ⟨by rfl, ?_⟩) (by assumption) ?_
    rotate_left
    · intro w hSw; (try dsimp only at hSw); go_simp; try (with_reducible rfl)
    try go_frame
    refine wpAnyH_ready (rs := [14]) (by kernel_rfl) (by simp) ?_
    refine ready_cons (i := 14) (o := ⟨_, _, _, _, _, _⟩) rfl ?_ AllReadyH.nil
    intro K hK
    try clear c0 c1
    refine store1_step rfl 55 _ _ rfl rb 0 57 [.slice A n e, .slice none 0 0] (.slice A2 n2 c2) rfl rfl K2.out (by show 0 < 2; decide) size1s rfl rfl ?_
    intro w3 k3 f3 _
    have K3 : Hid (w3.heap[rb]? = some (resO (.slice A2 n2 c2) (.slice none 0 0))) := Lib.hid k3
    have F3 := Lib.hid f3
    refine hK.out _ _ trivial (fun hHeld => ?_)
    clear hK K k3 f3
    try go_frame
    refine wpAnyH_done (by kernel_rfl) ?_ _
    go_wp2
    refine bodyPost_end (results_none rfl _ _ _) rfl ?_
    exact res_end B1.out K1.out O1.out G2.out E2.out K2.out O2.out TY.out F3.out K3.out LW.out
  · intro K hK
    refine call_step (f := 112) (args := #[.int .u64 now, .int .u64 t]) rfl (by kernel_rfl) ?_
    refine (add_any now t wd h0 t0 h1 t1).mono ?_
    rintro r wz ⟨rfl, hz⟩
    rw [← hz]
    clear hz wz
    refine ⟨_, rfl, ?_⟩
    refine hK.out _ _ trivial (fun hHeld => ?_)
    clear hK K
    try go_frame
    refine wpAnyH_take (i := 9) (oi := ⟨_, _, _, _, _, _⟩) (v := ?_) rfl (by kernel_rfl) (by kernel_rfl) (by kernel_rfl) (fun _ _ _ h => h) (Or.inl ⟨by rfl, ?_⟩) (by assumption) ?_
    rotate_left
    · intro w hSw; (try dsimp only at hSw); go_simp; try (with_reducible rfl)
    try go_frame
    refine wpAnyH_ready (rs := [4, 10]) (by kernel_rfl) (by simp) ?_
    refine ready_cons (i := 4) (o := ⟨_, _, _, _, _, _⟩) rfl ?_ (ready_cons (i := 10) (o := ⟨_, _, _, _, _, _⟩) rfl ?_ AllReadyH.nil)
    · intro K hK
      constructor
      go_simp
      refine hK.out _ _ trivial (fun hHeld => ?_)
      clear hK K
      try go_frame
      refine wpAnyH_ready (rs := [10]) (by kernel_rfl) (by simp) ?_
      refine ready_cons (i := 10) (o := ⟨_, _, _, _, _, _⟩) rfl ?_ AllReadyH.nil
      intro K hK
      constructor
      go_simp
      rw [HW1.out]
      refine hK.out _ _ trivial (fun hHeld => ?_)
      clear hK K
      have c1 := C1.out
      try go_frame
      refine wpAnyH_ready (rs := [11]) (by kernel_rfl) (by simp) ?_
      refine ready_cons (i := 11) (o := ⟨_, _, _, _, _, _⟩) rfl ?_ AllReadyH.nil
      intro K hK
      refine Stepping.mk (appS_step tA (v := .slice A n e) (base := lo) rfl (.tmp 12) (.tmp 18) rfl rfl rfl O1.out S1.out LN.out LO.out ?_)
      intro v2 w2 o2 g2 e2
      obtain ⟨A2, n2, c2, rfl, _, _, _, _⟩ := o2.row'
      have K2 : Hid (w2.heap[rb]? = some (resO (.slice A n e) (.slice none 0 0))) := Lib.hid ((g2.block rb (heap_lt K1.out) (fun hc => TY.out rb hc.symm rfl)).trans K1.out)
      have O2 := Lib.hid o2
      have G2 := Lib.hid g2
      have E2 := Lib.hid e2
      clear o2 g2 e2
      refine hK.out _ _ trivial (fun hHeld => ?_)
      clear hK K
      try go_frame
      refine wpAnyH_take (i := 12) (oi := ⟨_, _, _, _, _, _⟩) (v := ?_) rfl (by kernel_rfl) (by kernel_rfl) (by kernel_rfl) (fun _ _ _ h => h) (Or.inl ⟨by rfl, ?_⟩) (by assumption) ?_
      rotate_left
      · intro w hSw; (try dsimp only at hSw); go_simp; try (with_reducible rfl)
      try go_frame
      refine wpAnyH_take (i := 13) (oi := ⟨_, _, _, _, _, _⟩) (v := ?_) rfl (by kernel_rfl) (by kernel_rfl) (by kernel_rfl) (fun _ _ _ h => h) (Or.inl ⟨by rfl, ?_⟩) (by assumption) ?_
      rotate_left
      · intro w hSw; (try dsimp only at hSw); go_simp; try (with_reducible rfl)
      try go_frame
      refine wpAnyH_ready (rs := [14]) (by kernel_rfl) (by simp) ?_
      refine ready_cons (i := 14) (o := ⟨_, _, _, _, _, _⟩) rfl ?_ AllReadyH.nil
      intro K hK
      try clear c0 c1
      refine store1_step rfl 55 _ _ rfl rb 0 57 [.slice A n e, .slice none 0 0] (.slice A2 n2 c2) rfl rfl K2.out (by show 0 < 2; decide) size1s rfl rfl ?_
      intro w3 k3 f3 _
      have K3 : Hid (w3.heap[rb]? = some (resO (.slice A2 n2 c2) (.slice none 0 0))) := Lib.hid k3
      have F3 := Lib.hid f3
      refine hK.out _ _ trivial (fun hHeld => ?_)
      clear hK K k3 f3
      try go_frame
      refine wpAnyH_done (by kernel_rfl) ?_ _
      go_wp2
      refine bodyPost_end (results_none rfl _ _ _) rfl ?_
      exact res_end B1.out K1.out O1.out G2.out E2.out K2.out O2.out TY.out F3.out K3.out LW.out
    · intro K hK
      constructor
      go_simp
      rw [HW1.out]
      refine hK.out _ _ trivial (fun hHeld => ?_)
      clear hK K
      have c1 := C1.out
      try go_frame
      refine wpAnyH_ready (rs := [4]) (by kernel_rfl) (by simp) ?_
      refine ready_cons (i := 4) (o := ⟨_, _, _, _, _, _⟩) rfl ?_ AllReadyH.nil
      intro K hK
      constructor
      go_simp
      refine hK.out _ _ trivial (fun hHeld => ?_)
      clear hK K
      try go_frame
      refine wpAnyH_ready (rs := [11]) (by kernel_rfl) (by simp) ?_
      refine ready_cons (i := 11) (o := ⟨_, _, _, _, _, _⟩) rfl ?_ AllReadyH.nil
      intro K hK
      refine Stepping.mk (appS_step tA (v := .slice A n e) (base := lo) rfl (.tmp 12) (.tmp 18) rfl rfl rfl O1.out S1.out LN.out LO.out ?_)
      intro v2 w2 o2 g2 e2
      obtain ⟨A2, n2, c2, rfl, _, _, _, _⟩ := o2.row'
      have K2 : Hid (w2.heap[rb]? = some (resO (.slice A n e) (.slice none 0 0))) := Lib.hid ((g2.block rb (heap_lt K1.out) (fun hc => TY.out rb hc.symm rfl)).trans K1.out)
      have O2 := Lib.hid o2
      have G2 := Lib.hid g2
      have E2 := Lib.hid e2
      clear o2 g2 e2
      refine hK.out _ _ trivial (fun hHeld => ?_)
      clear hK K
      try go_frame
      refine wpAnyH_take (i := 12) (oi := ⟨_, _, _, _, _, _⟩) (v := ?_) rfl (by kernel_rfl) (by kernel_rfl) (by kernel_rfl) (fun _ _ _ h => h) (Or.inl ⟨by rfl, ?_⟩) (by assumption) ?_
      rotate_left
      · intro w hSw; (try dsimp only at hSw); go_simp; try (with_reducible rfl)
      try go_frame
      refine wpAnyH_take (i := 13) (oi := ⟨_, _, _, _, _, _⟩) (v := ?_) rfl (by kernel_rfl) (by kernel_rfl) (by kernel_rfl) (fun _ _ _ h => h) (Or.inl ⟨by rfl, ?_⟩) (by assumption) ?_
      rotate_left
      · intro w hSw; (try dsimp only at hSw); go_simp; try (with_reducible rfl)
      try go_frame
      refine wpAnyH_ready (rs := [14]) (by kernel_rfl) (by simp) ?_
      refine ready_cons (i := 14) (o := ⟨_, _, _, _, _, _⟩) rfl ?_ AllReadyH.nil
      intro K hK
      try clear c0 c1
      refine store1_step rfl 55 _ _ rfl rb 0 57 [.slice A n e, .slice none 0 0] (.slice A2 n2 c2) rfl rfl K2.out (by show 0 < 2; decide) size1s rfl rfl ?_
      intro w3 k3 f3 _
      have K3 : Hid (w3.heap[rb]? = some (resO (.slice A2 n2 c2) (.slice none 0 0))) := Lib.hid k3
      have F3 := Lib.hid f3
      refine hK.out _ _ trivial (fun hHeld => ?_)
      clear hK K k3 f3
      try go_frame
      refine wpAnyH_done (by kernel_rfl) ?_ _
      go_wp2
      refine bodyPost_end (results_none rfl _ _ _) rfl ?_
      exact res_end B1.out K1.out O1.out G2.out E2.out K2.out O2.out TY.out F3.out K3.out LW.out
end Go.Proofs.YtgnccpmkdgfjeaaGreat

namespace Go.Proofs.YtgnccpmkdgfjeaaGreat
set_option linter.unusedVariables false
set_option maxRecDepth 100000
open Go.ChangeShapes Go.WideShapes Go.ChangeAt Go.RowKit

/-- A result by which all is told. -/
structure ResD (w : World) (rb lo : Nat) (v o : Value) (L : List DA) (O : List Ot) : Prop where
  blk : w.heap[rb]? = some (resO v o)
  own : OwnR arec w lo 99 v L
  outs : ∃ P q f, o = .slice P q f ∧ RowR orec w P q O ∧ Fresh lo P
  low : lo ≤ rb
theorem ResN.done {w : World} {rb lo : Nat} {v : Value} {L : List DA} (h : ResN w rb lo v L) : ResD w rb lo v (.slice none 0 0) L [] := ⟨h.blk, h.own, ⟨none, 0, 0, rfl, RowR.nil _, Fresh.none _⟩, h.low⟩
theorem size1o : (Tryz.prog.info? 43).map (·.size) = some 1 := by kernel_rfl
/-- Blocks of N that were there. -/
def NB (N : Nat → Prop) (w : World) (j : Nat) : Prop := N j ∧ j < w.heap.size
theorem NB.of {N : Nat → Prop} {w : World} {j : Nat} (h : NB N w j) : N j := h.1
theorem DepM.nb {w : World} {D : DB} {N : Nat → Prop} {c : Cnf} {S : DS} (h : DepM w D N c S) : DepM w D (NB N w) c S := h.grow (fun j hj => .inl hj.1) (fun j hj => ⟨h.inN j hj, h.old hj⟩)
theorem CN.fin_at (x : CL) : (x.at_ x.k.fin).k = x.k.fin := rfl
/-- Outcomes do not lie in a result's own block. -/
theorem outs_off {w : World} {rb lo : Nat} {v : Value} {L : List DA} {O : List Ot} {P : Option Addr} {q : Nat} (h : ResN w rb lo v L) (hr : RowR orec w P q O) : OffR (· = rb) P q := by
  intro h0 b off e hb
  have hb' : b = rb := hb
  subst hb'
  obtain ⟨A, n, c, rfl, _, _, _, _⟩ := h.own.row'
  obtain ⟨b', off', x, e', _, hc⟩ := hr.out h0
  rw [e] at e'
  injection e' with e'
  injection e' with e1 e2
  subst e1 e2
  have h1 := range_cell hc
  rw [Nat.zero_mul, Nat.add_zero, cell_of h.blk] at h1
  match off, h1 with
  | 0, h1 => simp [aggV] at h1
  | 1, h1 => simp [aggV] at h1
  | k + 2, h1 => simp [aggV] at h1
/-- Stores of outcomes into a result. -/
theorem res_told {w w2 : World} {rb lo : Nat} {v : Value} {L : List DA} {O : List Ot} {P : Option Addr} {q f : Nat} (h : ResN w rb lo v L) (hr : RowR orec w P q O) (hf : Frm (· = rb) w w2) (hk : w2.heap[rb]? = some (resO v (.slice P q f))) (hp : OffR (· = rb) P q) (hq : Fresh lo P) : ResD w2 rb lo v (.slice P q f) L O := by
  refine ⟨hk, h.own.frm hf ?_, ⟨P, q, f, rfl, hr.apart hf (fun b off e h0 => hp h0 b off e), hq⟩, h.low⟩
  rintro j rfl cs hc
  rw [h.blk] at hc
  injection hc with hc
  injection hc with _ hc
  exact absurd hc (by decide)

set_option maxHeartbeats 2000000 in
theorem end_any (D : DB) (N : Nat → Prop) (c : Cnf) (S : DS) (x : CL) (A : Option Addr) (n e : Nat) (M : Option Addr) (m d : Nat) (rb lo : Nat) (v : Value) (L : List DA) (now : Nat) (kind : Int) (B : Option Addr) (q f : Nat) (vs : List Int) (w : World)
    (h : DepM w D N c S) (hb : Bat w A n e M m d x.zs x.ms) (ho : OffB N A n M m) (hl : S.cs.length < maxLen) (hr : ResN w rb lo v L) (hN : N rb) (hv : RowR irec w B q vs) (hvm : OffR (· = D.cm) B q) (hn : n ≤ 1000) (hm : m ≤ 1000) (hlo : ∀ j, D.F j → j < lo) :
    Calls Tryz.prog 69 #[ptr D.db, ptr rb, .int .u64 now, callV A n e M m d x.k, .int .i64 kind, .slice B q f] w fun r w' => r = .returned (.tuple #[]) ∧ DepM w' D (NB N w) c (S.keep (x.at_ x.k.fin)) ∧ (∃ o, ResD w' rb lo v o L (outsL x.zs x.ms x.k.fin kind vs now)) ∧ Frm (fun j => D.F j ∨ j = rb) w w' := by
  obtain ⟨g, hg⟩ : ∃ g, w.heap.size = g := ⟨_, rfl⟩
  obtain ⟨fs, hu⟩ := undCL
  have HU := Lib.hid hu
  have H := Lib.hid h
  have HB := Lib.hid hb
  have HO := Lib.hid ho
  have HL := Lib.hid hl
  have HR := Lib.hid hr
  have HN := Lib.hid hN
  have HV := Lib.hid hv
  have HVM := Lib.hid hvm
  have HLO := Lib.hid hlo
  have RL : Hid (rb < w.heap.size) := Lib.hid (heap_lt hr.blk)
  clear h hb ho hl hr hN hv hvm hu hlo
  unfold ptr
  go_enter Tryz.func69, Tryz.ntmps69
  go_wp2_with (first
    | (refine wpList_box_agg rfl 135 _ rfl g hg (kvals A n e M m d x.k) rfl ?_; intro w1 k1 l1 s1;
       have K1 := Lib.hid k1; have L1 : Hid (Below w.heap.size w w1) := Lib.hid (by rw [hg]; exact l1); clear k1 l1 s1)
    | (refine wpList_load_agg rfl 135 _ rfl g rfl (kvals A n e M m d x.k) ?hz _ HU.out rfl sizeCL ?_; (case hz => exact K1.out))
    | (go_at_call 128; refine (kend_any A n e M m d x.k x.zs x.ms w1 (HB.out.below L1.out) hn hm).mono ?_; rintro r w2 ⟨A2, e2, M2, d2, rfl, hb2, hf2, l2⟩;
       have K2 := Lib.hid (kb_below K1.out l2); have L2 : Hid (Below w.heap.size w w2) := Lib.hid (L1.out.trans (l2.mono L1.out.size));
       have B2 := Lib.hid hb2; have FR2 : Hid (Fresh w.heap.size A2 ∧ Fresh w.heap.size M2) := Lib.hid ⟨hf2.1.mono L1.out.size, hf2.2.mono L1.out.size⟩; have FW2 : Hid (Fresh w1.heap.size A2 ∧ Fresh w1.heap.size M2) := Lib.hid hf2; have G1 : Hid (g < w1.heap.size) := Lib.hid (heap_lt K1.out); clear hb2 hf2 l2 K1)
    | (refine wpList_store_agg rfl 135 _ _ rfl g (kvals A n e M m d x.k) (kvals A2 n e2 M2 m d2 x.k.fin) rfl rfl ?hz rfl sizeCL (onesK _ _ _ _ _ _ _) ?_; (case hz => exact K2.out); intro w3 k3 f3 _;
       have K3 := Lib.hid k3; have F3 := Lib.hid f3;
       have OG : Hid (OffB (· = g) A2 n M2 m) := Lib.hid (OffB.fresh FW2.out (fun j e => by have e' : j = g := e; rw [e']; exact G1.out));
       have B3 := Lib.hid (B2.out.frm f3 OG.out);
       have L3 : Hid (Below w.heap.size w w3) := Lib.hid (L2.out.trans (f3.below L2.out.size (fun j hj e => by have e' : j = g := e; omega))); clear k3 f3 K2)
    | (refine wpList_load_agg rfl 135 _ rfl g rfl (kvals A2 n e2 M2 m d2 x.k.fin) ?hz _ HU.out rfl sizeCL ?_; (case hz => exact K3.out))
    | (go_at_call 64; refine (keep_any D (NB N w) c S (x.at_ x.k.fin) A2 n e2 M2 m d2 w3 (H.out.nb.below L3.out) B3.out (OffB.fresh FR2.out (fun j hj => hj.2)) HL.out).mono ?_; rintro r w4 ⟨rfl, h4, f4⟩;
       have H4 := Lib.hid h4; have F4 := Lib.hid f4;
       have K4 := Lib.hid ((f4.block g (heap_lt K3.out) (ty_ne (ty_cells K3.out) (H.out.below L3.out).tcm (by simp))).trans K3.out);
       have B4 := Lib.hid (B3.out.frm f4 (OffB.fresh FR2.out (fun j e => by have e' : j = D.cm := e; rw [e']; exact H.out.old (.inr (.inr (.inr (.inr (.inr (.inr rfl)))))))));
       have R4 := Lib.hid ((HR.out.below L3.out).frm f4 (fun j e => by have e' : j = D.cm := e; rw [e']; exact HLO.out _ (.inr (.inr (.inr (.inr (.inr (.inr rfl))))))));
       have LW4 : Hid (lo ≤ w4.heap.size) := Lib.hid (Nat.le_trans HR.out.low (Nat.le_trans (Nat.le_of_lt RL.out) (Nat.le_trans L3.out.size f4.size)));
       have V4 := Lib.hid ((HV.out.later L3.out).apart f4 (fun b off e h0 => HVM.out h0 b off e)); clear h4 f4 K3)
    | (refine wpList_load_agg rfl 135 _ rfl g rfl (kvals A2 n e2 M2 m d2 x.k.fin) ?hz _ HU.out rfl sizeCL ?_; (case hz => exact K4.out))
    | (go_at_call 129; refine (kouts_fr A2 n e2 M2 m d2 x.k.fin x.zs x.ms kind B q f vs now w4 B4.out V4.out hm).mono ?_; rintro r w5 ⟨P, q5, f5, rfl, r5, p5, l5⟩; have P5 := Lib.hid p5;
       have R5 := Lib.hid (R4.out.below l5); have O5 := Lib.hid r5; have H5 := Lib.hid (H4.out.below l5); have L5 := Lib.hid l5; clear r5 l5 p5 K4)
    | (refine wpList_store_one rfl 43 _ _ rfl rb 1 57 [v, .slice none 0 0] (.slice P q5 f5) rfl rfl ?hz (by show 1 < 2; decide) size1o rfl rfl ?_; (case hz => exact R5.out.blk); intro w6 k6 f6 _;
       have K6 : Hid (w6.heap[rb]? = some (resO v (.slice P q5 f5))) := Lib.hid k6; have F6 := Lib.hid f6; clear k6 f6))
  refine bodyPost_end (results_none rfl _ _ _) rfl ?_
  have hd : DepM w6 D (NB N w) c (S.keep (x.at_ x.k.fin)) := H5.out.frm1 F6.out ⟨HN.out, RL.out⟩ R5.out.ty (by decide) (by decide) (by decide) (by decide) (by decide) (by decide) (by decide)
  refine ⟨rfl, hd, ⟨_, res_told R5.out O5.out F6.out K6.out (outs_off R5.out O5.out) (P5.out.mono LW4.out)⟩, ?_⟩
  have f4 : Frm (fun j => D.F j ∨ j = rb) w w4 := (Frm.of_below L3.out).trans (F4.out.mono (F' := fun j => D.F j ∨ j = rb) (fun j _ e => .inl (.inr (.inr (.inr (.inr (.inr (.inr e)))))))) (fun _ _ h => h)
  exact (f4.then_below L5.out).trans F6.out (fun j _ e => .inr e)
end Go.Proofs.YtgnccpmkdgfjeaaGreat

namespace Go.Proofs.YtgnccpmkdgfjeaaGreat
set_option linter.unusedVariables false
set_option maxRecDepth 100000
open Go.ChangeShapes Go.WideShapes Go.ChangeAt Go.RowKit

/-- A call that is known, of a batch that isn't great. -/
def DS.Has (S : DS) (id : Int) : Prop := ∃ x, S.find id = some x ∧ x.zs.length ≤ 1000 ∧ x.ms.length ≤ 1000
theorem DS.find_id {S : DS} {id : Int} {x : CL} (h : S.find id = some x) : x.id = id := (cfind_some h).2
theorem DS.find_put (S : DS) (x : CL) (z : Int) : (S.put x).find z = if z = x.id then some x else S.find z := Go.Proofs.YtgnccpmkdgfjeaaGreat.find_put
theorem DS.run1_of {S : DS} {id : Int} {x : CL} (h : S.find id = some x) : S.run1 id = S.put (x.at_ x.k.run) := by unfold DS.run1; rw [h]
theorem DS.Has.run1 {S : DS} {id z : Int} (h : S.Has z) : (S.run1 id).Has z := by
  cases hf : S.find id with
  | none => unfold DS.run1; rw [hf]; exact h
  | some x =>
    rw [DS.run1_of hf]
    obtain ⟨y, hy, h1, h2⟩ := h
    by_cases he : z = x.id
    · have hx := DS.find_id hf
      have : S.find z = some x := by rw [he, hx]; exact hf
      rw [this] at hy
      injection hy with hy
      subst hy
      exact ⟨x.at_ x.k.run, by rw [DS.find_put, CL.id_at, if_pos he], h1, h2⟩
    · exact ⟨y, by rw [DS.find_put, CL.id_at, if_neg he]; exact hy, h1, h2⟩
theorem DS.runL_snoc (l : List Int) (i : Int) : ∀ S : DS, S.runL (l ++ [i]) = (S.runL l).run1 i := by
  induction l with
  | nil => intro S; rfl
  | cons j l ih => intro S; exact ih (S.run1 j)
theorem DS.Has.runL {z : Int} : ∀ (l : List Int) {S : DS}, S.Has z → (S.runL l).Has z
  | [], _, h => h
  | i :: l, _, h => DS.Has.runL l (h.run1)
theorem DS.run1_len {S : DS} (hu : (S.cs.map CL.id).Nodup) (id : Int) : (S.run1 id).cs.length = S.cs.length := by
  cases hf : S.find id with
  | none => unfold DS.run1; rw [hf]
  | some x =>
    rw [DS.run1_of hf]
    show (without S.cs x.id ++ [_]).length = _
    have := cput_len (x := x.at_ x.k.run) hu
    rw [CL.id_at] at this
    rw [this, show S.cs.find? (fun y => y.id == x.id) = some x by rw [DS.find_id hf]; exact hf]
    rfl
theorem DS.run1_uni {S : DS} (hu : (S.cs.map CL.id).Nodup) (id : Int) : ((S.run1 id).cs.map CL.id).Nodup := by
  cases hf : S.find id with
  | none => unfold DS.run1; rw [hf]; exact hu
  | some x => rw [DS.run1_of hf]; exact put_uni (x := x.at_ x.k.run) hu
theorem DS.runL_len : ∀ (l : List Int) {S : DS}, (S.cs.map CL.id).Nodup → (S.runL l).cs.length = S.cs.length
  | [], _, _ => rfl
  | i :: l, S, h => (DS.runL_len l (DS.run1_uni h i)).trans (DS.run1_len h i)
/-- A row of integers does not lie in a map. -/
theorem row_off {w : World} {I : Option Addr} {n m : Nat} {zs : List Int} {es : Array MapEntry} {k : Nat} (h : RowR irec w I n zs) (hm : w.heap[m]? = some (.map es k)) : OffR (· = m) I n := by
  intro h0 b off e hb
  have hb' : b = m := hb
  subst hb'
  obtain ⟨b', off', z, e', _, hc⟩ := h.int_at h0
  rw [e] at e'
  injection e' with e'
  injection e' with e1 e2
  subst e1 e2
  unfold World.cell? at hc
  rw [hm] at hc
  cases hc
theorem DepM.map {w : World} {D : DB} {N : Nat → Prop} {c : Cnf} {S : DS} (h : DepM w D N c S) : ∃ es k, w.heap[D.cm]? = some (.map es k) := by
  obtain ⟨g, h1, _⟩ := h.cls
  exact h1.obj
theorem take_int {V : List Int} {j : Nat} {z : Int} (h : V[j]? = some z) : V.take (j + 1) = V.take j ++ [z] := by
  obtain ⟨hlt, he⟩ := List.getElem?_eq_some_iff.1 h
  rw [List.take_succ_eq_append_getElem hlt, he]

set_option maxHeartbeats 4000000 in
theorem run_any (D : DB) (N : Nat → Prop) (c : Cnf) (S : DS) (I : Option Addr) (n e : Nat) (ids : List Int) (w : World) (h : DepM w D N c S) (hi : RowR irec w I n ids) (hk : ∀ z ∈ ids, S.Has z ∧ wf64 z) (hl : S.cs.length < maxLen) (hn : n ≤ 1000) :
    Calls Tryz.prog 78 #[ptr D.db, .slice I n e] w fun r w' => r = .returned (.tuple #[]) ∧ DepM w' D (NB N w) c (S.runL ids) ∧ Frm (· = D.cm) w w' := by
  obtain ⟨es, kk, hmp⟩ := h.map
  have H := Lib.hid h
  have HI := Lib.hid hi
  have HO := Lib.hid (row_off hi hmp)
  have HK := Lib.hid hk
  have HL := Lib.hid hl
  have HC : Hid (D.cm < w.heap.size) := Lib.hid (heap_lt hmp)
  clear h hi hk hl hmp
  unfold ptr
  go_enter Tryz.func78, Tryz.ntmps78
  go_wp2
  go_loopg [8] n (fun k v8 wr => ∃ j : Nat, j + k = n ∧ v8 = .int .i64 j ∧ DepM wr D (NB N w) c (S.runL (ids.take j)) ∧ Frm (· = D.cm) w wr)
  case atStart => exact ⟨0, by omega, rfl, H.out.nb, Frm.refl _ _⟩
  case round =>
    obtain ⟨j, hj, rfl, hd, hf⟩ := hrel
    have HJ := Lib.hid hj
    have HD := Lib.hid hd
    have HF := Lib.hid hf
    clear hj hd hf
    by_cases hlt : j < n
    · have hlt' : (j : Int) < n := by omega
      obtain ⟨b, off, z, rfl, hV, q0⟩ := (HI.out.apart HF.out (fun b off e h0 => HO.out h0 b off e)).int_at hlt
      have HT := Lib.hid (take_int hV)
      obtain ⟨⟨x, hx, hz1, hm1⟩, hwz⟩ := HK.out z (List.mem_of_getElem? hV)
      obtain ⟨y, hy, hz2, hm2⟩ := DS.Has.runL (ids.take j) (S := S) ⟨x, hx, hz1, hm1⟩
      have hyz := DS.find_id hy
      subst hyz
      have DR : Hid (DepM wr.drew D (NB N w) c (S.runL (ids.take j))) := Lib.hid (HD.out.ali (drew_ali _))
      have FR : Hid (Frm (· = D.cm) w wr.drew) := Lib.hid (HF.out.ali (drew_ali _))
      obtain ⟨wd, hwd⟩ : ∃ wd, wr.drew = wd := ⟨_, rfl⟩
      rw [hwd] at DR FR
      have HWD := Lib.hid hwd
      obtain ⟨A, p, e5, M, m, d, hlk, hbt, hof⟩ := DR.out.look hy hwz rfl
      have c21 : wd.cell? ⟨D.db, 21, none⟩ = some (.map (some D.cm)) := (dobj_cells DR.out.blk).2.2.2.2.2.1
      have HB := Lib.hid hbt
      have HOF := Lib.hid hof
      have HP : Hid (p ≤ 1000 ∧ m ≤ 1000) := Lib.hid ⟨by rw [← hbt.alen]; exact hz2, by rw [← hbt.mlen]; exact hm2⟩
      have HY := Lib.hid hy
      have HLL : Hid ((S.runL (ids.take j)).cs.length < maxLen) := Lib.hid (by rw [DS.runL_len _ H.out.uni]; exact HL.out)
      clear hbt hof hz1 hm1 hz2 hm2 hx hy hV hwd
      go_wp2_with fail
      refine wp_region_held_drew (S := fun wx => wx.cell? ⟨D.db, 21, none⟩ = some (.map (some D.cm))) (by kernel_rfl) (by rw [HWD.out]; exact c21) (fun hHeld => ?_)
      rw [HWD.out] at hHeld ⊢
      refine wpAnyH_take (i := 0) (oi := ⟨_, _, _, _, _, _⟩) (v := ?_) rfl (by kernel_rfl) (by kernel_rfl) (by kernel_rfl) (fun _ _ _ h => h) (Or.inl ⟨by rfl, ?_⟩) (by assumption) ?_
      rotate_left
      · intro w hSw; (try dsimp only at hSw); go_simp; try (with_reducible rfl)
      try go_frame
      refine wpAnyH_take (i := 1) (oi := ⟨_, _, _, _, _, _⟩) (v := ?_) rfl (by kernel_rfl) (by kernel_rfl) (by kernel_rfl) (fun _ _ _ h => h) (Or.inl ⟨by rfl, ?_⟩) (by assumption) ?_
      rotate_left
      · intro w hSw; (try dsimp only at hSw); go_simp; try (with_reducible rfl)
      try go_frame
      refine wpAnyH_take (i := 2) (oi := ⟨_, _, _, _, _, _⟩) (v := ?_) rfl (by kernel_rfl) (by kernel_rfl) (by kernel_rfl) (fun _ _ _ h => h) (Or.inl ⟨by rfl, ?_⟩) (by assumption) ?_
      rotate_left
      · intro w hSw; (try dsimp only at hSw); go_simp; try (with_reducible rfl)
      try go_frame
      refine wpAnyH_take (i := 3) (oi := ⟨_, _, _, _, _, _⟩) (v := ?_) rfl (by kernel_rfl) (by kernel_rfl) (by kernel_rfl) (fun _ _ _ h => h) (Or.inl ⟨by rfl, ?_⟩) (by assumption) ?_
      rotate_left
      · intro w hSw; (try dsimp only at hSw); go_simp; try (with_reducible rfl)
      try go_frame
      refine wpAnyH_take (i := 4) (oi := ⟨_, _, _, _, _, _⟩) (v := ?_) rfl (by kernel_rfl) (by kernel_rfl) (by kernel_rfl) (fun _ _ _ h => h) (Or.inl ⟨by rfl, ?_⟩) (by assumption) ?_
      rotate_left
      · intro w hSw; (try dsimp only at hSw); go_simp; try (with_reducible rfl)
      try go_frame
      refine wpAnyH_take (i := 5) (oi := ⟨_, _, _, _, _, _⟩) (v := ?_) rfl (by kernel_rfl) (by kernel_rfl) (by kernel_rfl) (fun _ _ _ h => h) (Or.inl ⟨by rfl, ?_⟩) (by assumption) ?_
      rotate_left
      · intro w hSw; (try dsimp only at hSw); go_simp; try (with_reducible rfl)
      try go_frame
      refine wpAnyH_take (i := 6) (oi := ⟨_, _, _, _, _, _⟩) (v := ?_) rfl (by kernel_rfl) (by kernel_rfl) (by kernel_rfl) (fun _ _ _ h => h) (Or.inl ⟨by rfl, ?_⟩) (by assumption) ?_
      rotate_left
      · intro w hSw; (try dsimp only at hSw); go_simp; try (with_reducible rfl)
      try go_frame
      refine wpAnyH_take (i := 7) (oi := ⟨_, _, _, _, _, _⟩) (v := ?_) rfl (by kernel_rfl) (by kernel_rfl) (by kernel_rfl) (fun _ _ _ h => h) (Or.inl ⟨by rfl, ?_⟩) (by assumption) ?_
      rotate_left
      · intro w hSw; (try dsimp only at hSw); go_simp; try (with_reducible rfl)
      try go_frame
      refine wpAnyH_take (i := 8) (oi := ⟨_, _, _, _, _, _⟩) (v := ?_) rfl (by kernel_rfl) (by kernel_rfl) (by kernel_rfl) (fun _ _ _ h => h) (Or.inl ⟨by rfl, ?_⟩) (by assumption) ?_
      rotate_left
      · intro w hSw; (try dsimp only at hSw); go_simp; try (with_reducible rfl)
      try go_frame
      refine wpAnyH_take (i := 9) (oi := ⟨_, _, _, _, _, _⟩) (v := ?_) rfl (by kernel_rfl) (by kernel_rfl) (by kernel_rfl) (fun _ _ _ h => h) (Or.inl ⟨by rfl, ?_⟩) (by assumption) ?_
      rotate_left
      · intro w hSw; (try dsimp only at hSw); go_simp; try (with_reducible rfl)
      try go_frame
      refine wpAnyH_ready (rs := [10]) (by kernel_rfl) (by simp) ?_
      refine ready_cons (i := 10) (o := ⟨_, _, _, _, _, _⟩) rfl ?_ AllReadyH.nil
      intro K hK
      constructor
      go_simp
      refine hK.out _ _ c21 (fun hHeld => ?_)
      clear hK K
      try go_frame
      refine wpAnyH_ready (rs := [11]) (by kernel_rfl) (by simp) ?_
      refine ready_cons (i := 11) (o := ⟨_, _, _, _, _, _⟩) rfl ?_ AllReadyH.nil
      intro K hK
      refine call_step (f := 140) (args := #[callV A p e5 M m d y.k]) rfl (by kernel_rfl) ?_
      refine (krun_any A p e5 M m d y.k y.zs y.ms wd HB.out HP.out.1 HP.out.2).mono ?_
      rintro r w5 ⟨A2, e2, M2, d2, rfl, hb2, hf2, l2⟩
      refine ⟨_, rfl, ?_⟩
      have c5 := cell_later l2 c21
      obtain ⟨w6, hr6, h6, f6⟩ := (DR.out.below l2).store (x := y.at_ y.k.run) (N' := NB N w) hb2 (OffB.fresh hf2 (fun j hj => Nat.lt_of_lt_of_le hj.2 FR.out.size)) (fun _ h => h) (DR.out.inN) HLL.out
      have HR6 : (Instr.mapUpdate 112 (.map (some D.cm)) (.int .i64 y.id) (callV A2 p e2 M2 m d2 y.k.run)).run Tryz.prog w5 = .ok () w6 := hr6
      have H6 := Lib.hid h6
      have F6 : Hid (Frm (· = D.cm) w w6) := Lib.hid ((FR.out.then_below l2).trans f6 (fun _ _ e => e))
      have c6 : w6.cell? ⟨D.db, 21, none⟩ = some (.map (some D.cm)) := (dobj_cells h6.blk).2.2.2.2.2.1
      refine hK.out _ _ c5 (fun hHeld => ?_)
      clear hK K hlk c21 hb2 hf2 l2 hr6 h6 f6
      try go_frame
      refine wpAnyH_take (i := 12) (oi := ⟨_, _, _, _, _, _⟩) (v := ?_) rfl (by kernel_rfl) (by kernel_rfl) (by kernel_rfl) (fun _ _ _ h => h) (Or.inl ⟨by rfl, ?_⟩) (by assumption) ?_
      rotate_left
      · intro w hSw; (try dsimp only at hSw); go_simp; try (with_reducible rfl)
      try go_frame
      refine wpAnyH_take (i := 13) (oi := ⟨_, _, _, _, _, _⟩) (v := ?_) rfl (by kernel_rfl) (by kernel_rfl) (by kernel_rfl) (fun _ _ _ h => h) (Or.inl ⟨by rfl, ?_⟩) (by assumption) ?_
      rotate_left
      · intro w hSw; (try dsimp only at hSw); go_simp; try (with_reducible rfl)
      try go_frame
      refine wpAnyH_take (i := 14) (oi := ⟨_, _, _, _, _, _⟩) (v := ?_) rfl (by kernel_rfl) (by kernel_rfl) (by kernel_rfl) (fun _ _ _ h => h) (Or.inl ⟨by rfl, ?_⟩) (by assumption) ?_
      rotate_left
      · intro w hSw; (try dsimp only at hSw); go_simp; try (with_reducible rfl)
      try go_frame
      refine wpAnyH_ready (rs := [15]) (by kernel_rfl) (by simp) ?_
      refine ready_cons (i := 15) (o := ⟨_, _, _, _, _, _⟩) rfl ?_ AllReadyH.nil
      intro K hK
      constructor
      go_simp
      refine hK.out _ _ c6 (fun hHeld => ?_)
      clear hK K
      try go_frame
      refine wpAnyH_done (by kernel_rfl) ?_ _
      go_wp2
      go_roundg (n - (j + 1))
      case measure => have := HJ.out; omega
      case rel => exact ⟨j + 1, by omega, by simp, by rw [HT.out, DS.runL_snoc, DS.run1_of HY.out]; exact H6.out, F6.out⟩
    · have hlt' : ¬ (j : Int) < n := by omega
      go_wp2
      refine bodyPost_end (results_none rfl _ _ _) rfl ?_
      have hd := HD.out
      rw [List.take_of_length_le (by rw [HI.out.1]; omega)] at hd
      exact ⟨rfl, hd, HF.out⟩
end Go.Proofs.YtgnccpmkdgfjeaaGreat

namespace Go.Proofs.YtgnccpmkdgfjeaaGreat
set_option linter.unusedVariables false
set_option maxRecDepth 100000
open Go.ChangeShapes Go.WideShapes Go.ChangeAt Go.RowKit

/-- What falling may turn beside a result. -/
def DB.G (D : DB) (j : Nat) : Prop := j = D.fm ∨ j = D.cm
theorem DB.G_F {D : DB} {j : Nat} (h : D.G j) : D.F j := by
  rcases h with h | h
  · exact .inr (.inr (.inr (.inr (.inr (.inl h)))))
  · exact .inr (.inr (.inr (.inr (.inr (.inr h)))))
/-- Blocks of N, and all that are new. -/
def NU (N : Nat → Prop) (w : World) (j : Nat) : Prop := N j ∨ w.heap.size ≤ j
theorem DepM.nu {w : World} {D : DB} {N : Nat → Prop} {c : Cnf} {S : DS} (h : DepM w D N c S) : DepM w D (NU N w) c S := h.grow (fun j hj => hj) (fun j hj => .inl (h.inN j hj))
theorem DepM.nu_nb {w wr : World} {D : DB} {N : Nat → Prop} {c : Cnf} {S S' : DS} (h : DepM wr D (NU N w) c S') (hw : DepM w D N c S) : DepM wr D (NB N w) c S' := h.grow (fun j hj => .inl (.inl hj.1)) (fun j hj => ⟨hw.inN j hj, hw.old hj⟩)
/-- On the way: how far the call is, and whether it falls back; its rows are new. -/
structure FallW (w wr : World) (D : DB) (N : Nat → Prop) (c : Cnf) (S : DS) (x : CL) (g hi : Nat) (K : CN) (A : Option Addr) (n e : Nat) (M : Option Addr) (m d : Nat) : Prop where
  dep : DepM wr D (NU N w) c S
  blk : wr.heap[g]? = some (kobj A n e M m d K)
  bat : Bat wr A n e M m d x.zs x.ms
  frA : Fresh hi A
  frM : Fresh hi M
  low : Below w.heap.size w wr
theorem FallW.nb {w wr : World} {D : DB} {N : Nat → Prop} {c : Cnf} {S : DS} {x : CL} {g hi : Nat} {K : CN} {A : Option Addr} {n e : Nat} {M : Option Addr} {m d : Nat} (h : FallW w wr D N c S x g hi K A n e M m d) (hw : DepM w D N c S) : DepM wr D (NB N w) c S := h.dep.nu_nb hw
theorem FallW.below {w wr w' : World} {D : DB} {N : Nat → Prop} {c : Cnf} {S : DS} {x : CL} {g hi : Nat} {K : CN} {A : Option Addr} {n e : Nat} {M : Option Addr} {m d : Nat} (h : FallW w wr D N c S x g hi K A n e M m d) (hb : Below wr.heap.size wr w') : FallW w w' D N c S x g hi K A n e M m d :=
  ⟨h.dep.below hb, kb_below h.blk hb, h.bat.below hb, h.frA, h.frM, h.low.trans (hb.mono h.low.size)⟩
theorem FallW.put {w wd w5 w6 : World} {D : DB} {N : Nat → Prop} {c : Cnf} {S : DS} {x : CL} {g : Nat} {K K' : CN} {A A5 : Option Addr} {n e e5 : Nat} {M M5 : Option Addr} {m d d5 : Nat} (dd : DepM wd D (NU N w) c S) (ld : Below w.heap.size w wd) (b5 : Bat w5 A5 n e5 M5 m d5 x.zs x.ms) (n5 : Fresh wd.heap.size A5 ∧ Fresh wd.heap.size M5) (l5 : Below wd.heap.size wd w5)
    (f6 : Frm (· = g) w5 w6) (k6 : w6.heap[g]? = some (kobj A5 n e5 M5 m d5 K')) (kd : wd.heap[g]? = some (kobj A n e M m d K)) (hg : w.heap.size ≤ g) : FallW w w6 D N c S x g w.heap.size K' A5 n e5 M5 m d5 := by
  have kg := kb_below kd l5
  have hlt := heap_lt kd
  refine ⟨(dd.below l5).frm1 f6 (.inr hg) (ty_cells kg) (by decide) (by decide) (by decide) (by decide) (by decide) (by decide) (by decide), k6, b5.frm f6 (OffB.fresh n5 (fun j e => by have e' : j = g := e; omega)), n5.1.mono ld.size, n5.2.mono ld.size, ?_⟩
  exact (ld.trans (l5.mono ld.size)).trans (f6.below (Nat.le_trans ld.size l5.size) (fun j hj e => by have e' : j = g := e; omega))
theorem FallW.kept7 {w wr w7 : World} {D : DB} {N : Nat → Prop} {c : Cnf} {S : DS} {x : CL} {g hi : Nat} {K : CN} {A : Option Addr} {n e : Nat} {M : Option Addr} {m d : Nat} (h : FallW w wr D N c S x g hi K A n e M m d) (f : Frm (· = D.cm) wr w7) (hw : DepM w D N c S) : w7.heap[g]? = some (kobj A n e M m d K) :=
  (f.block g (heap_lt h.blk) (ty_ne (ty_cells h.blk) h.dep.tcm (by simp))).trans h.blk
theorem FallW.bat7 {w wr w7 : World} {D : DB} {N : Nat → Prop} {c : Cnf} {S : DS} {x : CL} {g : Nat} {K : CN} {A : Option Addr} {n e : Nat} {M : Option Addr} {m d : Nat} (h : FallW w wr D N c S x g w.heap.size K A n e M m d) (f : Frm (· = D.cm) wr w7) (hw : DepM w D N c S) : Bat w7 A n e M m d x.zs x.ms :=
  h.bat.frm f (OffB.fresh ⟨h.frA, h.frM⟩ (fun j e => by have e' : j = D.cm := e; rw [e']; exact hw.old (.inr (.inr (.inr (.inr (.inr (.inr rfl))))))))
theorem CN.fail_sp (K : CN) (z ch : Int) : (K.fail z ch).sp = K.sp ∨ (K.fail z ch).sp = K.sp + 1 ∧ K.sp < ch := by
  unfold CN.fail
  split
  · split
    · rename_i h; exact .inr ⟨rfl, h⟩
    · exact .inl rfl
  · exact .inl rfl
/-- There is fuel for what is to come. -/
structure CN.Run (c : Cnf) (K : CN) (m : Bool) (k : Nat) : Prop where
  fuel : m = true → c.chain - K.sp < k ∧ K.sp ≤ c.chain
  lo : 0 ≤ K.sp
  hi : K.sp ≤ 4
theorem CN.Run.wf {c : Cnf} {K : CN} {m : Bool} {k : Nat} (h : CN.Run c K m k) : wf64 K.sp := ⟨by have := h.lo; omega, by have := h.hi; omega⟩
theorem CN.Run.step {c : Cnf} {K : CN} {z : Int} {k : Nat} (h : CN.Run c K true (k + 1)) (hc : c.chain ≤ 3) : CN.Run c (K.fail z c.chain) (K.fails c.chain) k := by
  have h1 := h.fuel rfl
  have h2 := h.lo
  have h3 := CN.fail_sp K z c.chain
  refine ⟨fun hm => ?_, by omega, by have := h.hi; omega⟩
  have := CN.fails_sp (z := z) hm
  omega
theorem CN.run_first {c : Cnf} {K : CN} (h : 0 ≤ K.sp ∧ K.sp ≤ 3) (hc : c.chain ≤ 3) (z : Int) : CN.Run c (K.fail z c.chain) (K.fails c.chain) 8 := by
  have h3 := CN.fail_sp K z c.chain
  refine ⟨fun hm => ?_, by omega, by omega⟩
  have := CN.fails_sp (z := z) hm
  omega
theorem DS.can_no {c : Cnf} {S : DS} {id st : Int} (h : S.can c id st = false) : ¬ S.fb.length < c.fbMax.toNat ∨ (id, st) ∈ S.fb := by
  unfold DS.can at h
  rcases Bool.and_eq_false_iff.1 h with h | h
  · exact .inl (of_decide_eq_false h)
  · exact .inr (by simpa using h)
theorem DS.can_yes {c : Cnf} {S : DS} {id st : Int} (h : S.can c id st = true) : S.fb.length < c.fbMax.toNat ∧ (id, st) ∉ S.fb := by
  unfold DS.can at h
  rw [Bool.and_eq_true_iff] at h
  exact ⟨of_decide_eq_true h.1, by simpa using h.2⟩
theorem kobj_cells' {w : World} {g : Nat} {A M : Option Addr} {n e m d : Nat} {K : CN} (h : w.heap[g]? = some (kobj A n e M m d K)) :
    w.cell? ⟨g, 0, none⟩ = some (.slice A n e) ∧ w.cell? ⟨g, 1, none⟩ = some (.slice M m d) ∧ w.cell? ⟨g, 2, none⟩ = some (.int .i64 K.st) ∧ w.cell? ⟨g, 3, none⟩ = some (.int .i64 K.sp) ∧ w.cell? ⟨g, 4, none⟩ = some (.int .i64 K.ca) ∧ w.cell? ⟨g, 5, none⟩ = some (.int .u64 K.tm) :=
  ⟨vobj_cell h rfl, vobj_cell h rfl, vobj_cell h rfl, vobj_cell h rfl, vobj_cell h rfl, vobj_cell h rfl⟩

set_option maxHeartbeats 8000000 in
theorem fall_any (D : DB) (N : Nat → Prop) (c : Cnf) (S : DS) (x : CL) (A : Option Addr) (n e : Nat) (M : Option Addr) (m d : Nat) (rb lo : Nat) (v : Value) (L : List DA) (now : Nat) (z : Int) (w : World)
    (h : DepM w D N c S) (hb : Bat w A n e M m d x.zs x.ms) (hl : S.cs.length < maxLen) (hr : ResN w rb lo v L) (hN : ∀ j, RF rb v j → N j) (hn : n ≤ 1000) (hm : m ≤ 1000) (hlo : ∀ j, D.F j → j < lo) (hll : L.length ≤ 1000)
    (hcf : c.Fits) (hch : c.chain ≤ 3) (hsp : 0 ≤ x.k.sp ∧ x.k.sp ≤ 3) (hnow : now ≤ 18446744073709551615) :
    Calls Tryz.prog 70 #[ptr D.db, ptr rb, .int .u64 now, callV A n e M m d x.k, .int .i64 z] w fun r w' => r = .returned (.tuple #[]) ∧ DepM w' D (NB N w) c (S.fall c now x z).S ∧ (∃ v' o, ResD w' rb lo v' o (L ++ (S.fall c now x z).acts) (S.fall c now x z).outs) ∧ Frm (fun j => D.G j ∨ RF rb v j) w w' := by
  obtain ⟨g, hg⟩ : ∃ g, w.heap.size = g := ⟨_, rfl⟩
  have hid : wf64 x.id := lead_wf hb
  obtain ⟨fs, hu⟩ := undCL
  have HU := Lib.hid hu
  clear hu
  have H := Lib.hid h
  have HB := Lib.hid hb
  have HL := Lib.hid hl
  have HR := Lib.hid hr
  have HN := Lib.hid hN
  have HLO := Lib.hid hlo
  have HLL := Lib.hid hll
  have SP : Hid (wf64 x.k.sp) := Lib.hid ⟨by have := hsp.1; omega, by have := hsp.2; omega⟩
  have CW : Hid (wf64 c.chain) := Lib.hid hcf.chain
  have HSP := Lib.hid hsp
  have HCH := Lib.hid hch
  have HID := Lib.hid hid
  have HCF := Lib.hid hcf
  have RL : Hid (∀ j, RF rb v j → NB N w j) := Lib.hid (fun j hj => ⟨hN j hj, (hr.old hj).2⟩)
  clear h hb hl hr hN hlo hll hsp hch hid hcf
  obtain ⟨R, hR⟩ : ∃ R, S.fallsTo c x z = R := ⟨_, rfl⟩
  have hT : S.fall c now x z = if R.2 then ⟨(S.fbB (insH (x.id, R.1.sp) S.fb)).keep (x.at_ R.1), [⟨true, x.id, addS now c.fbTimeout⟩], [], 0⟩ else ⟨S.keep (x.at_ R.1), [], outsL x.zs x.ms R.1 4 [] now, 0⟩ := by
    unfold DS.fall
    rw [hR]
  obtain ⟨T, hTT⟩ : ∃ T, S.fall c now x z = T := ⟨_, rfl⟩
  rw [hTT] at hT ⊢
  have HT := Lib.hid hT
  have HR0 := Lib.hid hR
  clear hT hR hTT
  unfold ptr
  go_enter Tryz.func70, Tryz.ntmps70
  go_wp2_with (first
    | (refine wpList_box_agg rfl 135 _ rfl g hg (kvals A n e M m d x.k) rfl ?_; intro w1 k1 l1 s1;
       have q0 : w1.cell? ⟨g, 0, none⟩ = some (.slice A n e) := vobj_cell k1 rfl; have q1 : w1.cell? ⟨g, 1, none⟩ = some (.slice M m d) := vobj_cell k1 rfl;
       have K1 := Lib.hid k1; have L1 : Hid (Below w.heap.size w w1) := Lib.hid (by rw [hg]; exact l1); clear k1 l1 s1)
    | (go_at_call 73; refine (blead_any A n e M m d x.zs x.ms w1 (HB.out.below L1.out)).mono ?_; rintro r w2 ⟨rfl, l2⟩;
       have K2 := Lib.hid (kb_below K1.out l2); have L2 := Lib.hid (L1.out.trans (l2.mono L1.out.size)); clear q0 q1 l2))
  have DD : Hid (DepM w2.drew D (NU N w) c S) := Lib.hid (H.out.nu.below (below_ali L2.out (drew_ali _)))
  have KD : Hid (w2.drew.heap[g]? = some (kobj A n e M m d x.k)) := K2
  have BD : Hid (Bat w2.drew A n e M m d x.zs x.ms) := Lib.hid (HB.out.below (below_ali L2.out (drew_ali _)))
  have LD : Hid (Below w.heap.size w w2.drew) := Lib.hid (below_ali L2.out (drew_ali _))
  obtain ⟨wd, hwd⟩ : ∃ wd, w2.drew = wd := ⟨_, rfl⟩
  rw [hwd] at DD KD BD LD
  have HWD := Lib.hid hwd
  have NG : Hid (D.db < g) := Lib.hid (by rw [← hg]; exact heap_lt H.out.blk)
  obtain ⟨q0, q1, q2, q3, q4, q5⟩ := kobj_cells' KD.out
  have ch0 : wd.cell? ⟨D.db, 7, none⟩ = some (.int .i64 c.chain) := (dobj_conf DD.out.blk).1
  clear hwd K1 K2 L1 L2
  refine wp_region_held_drew (S := fun wx => wx.cell? ⟨D.db, 7, none⟩ = some (.int .i64 c.chain)) (by kernel_rfl) (by rw [HWD.out]; exact ch0) (fun hHeld => ?_)
  rw [HWD.out] at hHeld ⊢
  refine wpAnyH_take (i := 1) (oi := ⟨_, _, _, _, _, _⟩) (v := ?_) rfl (by kernel_rfl) (by kernel_rfl) (by kernel_rfl) (fun _ _ _ h => h) (Or.inl ⟨by rfl, ?_⟩) (by assumption) ?_
  rotate_left
  · intro w hSw; (try dsimp only at hSw); go_simp; try (with_reducible rfl)
  try go_frame
  refine wpAnyH_take (i := 2) (oi := ⟨_, _, _, _, _, _⟩) (v := ?_) rfl (by kernel_rfl) (by kernel_rfl) (by kernel_rfl) (fun _ _ _ h => h) (Or.inl ⟨by rfl, ?_⟩) (by assumption) ?_
  rotate_left
  · intro w hSw; (try dsimp only at hSw); go_simp; try (with_reducible rfl)
  try go_frame
  refine wpAnyH_take (i := 3) (oi := ⟨_, _, _, _, _, _⟩) (v := ?_) rfl (by kernel_rfl) (by kernel_rfl) (by kernel_rfl) (fun _ _ _ h => h) (Or.inl ⟨by rfl, ?_⟩) (by assumption) ?_
  rotate_left
  · intro w hSw; (try dsimp only at hSw); go_simp; try (with_reducible rfl)
  try go_frame
  refine wpAnyH_take (i := 4) (oi := ⟨_, _, _, _, _, _⟩) (v := ?_) rfl (by kernel_rfl) (by kernel_rfl) (by kernel_rfl) (fun _ _ _ h => h) (Or.inl ⟨by rfl, ?_⟩) (by assumption) ?_
  rotate_left
  · intro w hSw; (try dsimp only at hSw); go_simp; try (with_reducible rfl)
  try go_frame
  refine wpAnyH_take (i := 5) (oi := ⟨_, _, _, _, _, _⟩) (v := ?_) rfl (by kernel_rfl) (by kernel_rfl) (by kernel_rfl) (fun _ _ _ h => h) (Or.inl ⟨by rfl, ?_⟩) (by assumption) ?_
  rotate_left
  · intro w hSw; (try dsimp only at hSw); go_simp; try (with_reducible rfl)
  try go_frame
  refine wpAnyH_take (i := 6) (oi := ⟨_, _, _, _, _, _⟩) (v := ?_) rfl (by kernel_rfl) (by kernel_rfl) (by kernel_rfl) (fun _ _ _ h => h) (Or.inl ⟨by rfl, ?_⟩) (by assumption) ?_
  rotate_left
  · intro w hSw; (try dsimp only at hSw); go_simp; try (with_reducible rfl)
  try go_frame
  refine wpAnyH_ready (rs := [0]) (by kernel_rfl) (by simp) ?_
  refine ready_cons (i := 0) (o := ⟨_, _, _, _, _, _⟩) rfl ?_ AllReadyH.nil
  intro K hK
  constructor
  go_simp
  refine hK.out _ _ ch0 (fun hHeld => ?_)
  clear hK K
  try go_frame
  refine wpAnyH_ready (rs := [7]) (by kernel_rfl) (by simp) ?_
  refine ready_cons (i := 7) (o := ⟨_, _, _, _, _, _⟩) rfl ?_ AllReadyH.nil
  intro K hK
  refine call_step (f := 130) (args := #[callV A n e M m d x.k, .int .i64 z, .int .i64 c.chain]) rfl (by kernel_rfl) ?_
  refine (kfail_any A n e M m d x.k z c.chain x.zs x.ms wd BD.out hn hm SP.out CW.out).mono ?_
  rintro r w5 ⟨A5, e5, M5, d5, rfl, b5, n5, l5⟩
  refine ⟨_, rfl, ?_⟩
  have B5 := Lib.hid b5
  have N5 := Lib.hid n5
  have L5 := Lib.hid l5
  have K5 := Lib.hid (kb_below KD.out l5)
  refine hK.out _ _ (cell_later l5 ch0) (fun hHeld => ?_)
  clear hK K ch0 b5 n5 l5
  try go_frame
  refine wpAnyH_take (i := 8) (oi := ⟨_, _, _, _, _, _⟩) (v := ?_) rfl (by kernel_rfl) (by kernel_rfl) (by kernel_rfl) (fun _ _ _ h => h) (Or.inl ⟨by rfl, ?_⟩) (by assumption) ?_
  rotate_left
  · intro w hSw; (try dsimp only at hSw); go_simp; try (with_reducible rfl)
  try go_frame
  refine wpAnyH_take (i := 9) (oi := ⟨_, _, _, _, _, _⟩) (v := ?_) rfl (by kernel_rfl) (by kernel_rfl) (by kernel_rfl) (fun _ _ _ h => h) (Or.inl ⟨by rfl, ?_⟩) (by assumption) ?_
  rotate_left
  · intro w hSw; (try dsimp only at hSw); go_simp; try (with_reducible rfl)
  try go_frame
  refine wpAnyH_take (i := 10) (oi := ⟨_, _, _, _, _, _⟩) (v := ?_) rfl (by kernel_rfl) (by kernel_rfl) (by kernel_rfl) (fun _ _ _ h => h) (Or.inl ⟨by rfl, ?_⟩) (by assumption) ?_
  rotate_left
  · intro w hSw; (try dsimp only at hSw); go_simp; try (with_reducible rfl)
  try go_frame
  refine wpAnyH_ready (rs := [11]) (by kernel_rfl) (by simp) ?_
  refine ready_cons (i := 11) (o := ⟨_, _, _, _, _, _⟩) rfl ?_ AllReadyH.nil
  intro K hK
  refine store_step rfl 135 _ _ rfl g 0 135 (kvals A n e M m d x.k) (kvals A5 n e5 M5 m d5 (x.k.fail z c.chain)) rfl rfl K5.out (by show 0 + 6 ≤ 6; decide) sizeCL (onesK _ _ _ _ _ _ _) ?_
  intro w6 k6 f6 _
  have K6 : Hid (w6.heap[g]? = some (kobj A5 n e5 M5 m d5 (x.k.fail z c.chain))) := Lib.hid k6
  have F6 := Lib.hid f6
  refine hK.out _ _ (by rw [World.cell?_of_block (f6.block _ (heap_lt (kb_below DD.out.blk L5.out)) (by have := NG.out; show ¬ D.db = g; omega))]; exact (dobj_conf (kb_below DD.out.blk L5.out)).1) (fun hHeld => ?_)
  clear hK K k6 f6
  try go_frame
  refine wpAnyH_take (i := 12) (oi := ⟨_, _, _, _, _, _⟩) (v := ?_) rfl (by kernel_rfl) (by kernel_rfl) (by kernel_rfl) (fun _ _ _ h => h) (Or.inl ⟨by rfl, ?_⟩) (by assumption) ?_
  rotate_left
  · intro w hSw; (try dsimp only at hSw); go_simp; try (with_reducible rfl)
  try go_frame
  refine wpAnyH_done (by kernel_rfl) ?_ _
  have G6 : Hid (FallW w w6 D N c S x g w.heap.size (x.k.fail z c.chain) A5 n e5 M5 m d5) := Lib.hid (FallW.put DD.out LD.out B5.out N5.out L5.out F6.out K6.out KD.out (by rw [← hg]; exact Nat.le_refl _))
  have HR1 : Hid (CN.goL z c.chain (S.can c x.id) 8 (x.k.fail z c.chain) (x.k.fails c.chain) = R) := Lib.hid HR0.out
  have FU : Hid (CN.Run c (x.k.fail z c.chain) (x.k.fails c.chain) 8) := Lib.hid (CN.run_first HSP.out HCH.out z)
  obtain ⟨b0, hb0⟩ : ∃ b0, x.k.fails c.chain = b0 := ⟨_, rfl⟩
  rw [hb0] at HR1 FU
  obtain ⟨K0, hK0⟩ : ∃ K0, x.k.fail z c.chain = K0 := ⟨_, rfl⟩
  rw [hK0] at HR1 FU G6
  clear hK0 BD DD KD LD q0 q1 q2 q3 q4 q5 B5 N5 L5 K5 K6 F6 HB HSP SP
  try rw [hb0]
  clear hb0
  go_wp2
  go_loopg [11] 8 (fun k v11 wr => ∃ (K : CN) (mo : Bool) (A4 : Option Addr) (e4 : Nat) (M4 : Option Addr) (d4 : Nat), v11 = .bool mo ∧ FallW w wr D N c S x g w.heap.size K A4 n e4 M4 m d4 ∧ CN.goL z c.chain (S.can c x.id) k K mo = R ∧ CN.Run c K mo k)
  case atStart => exact ⟨K0, b0, A5, e5, M5, d5, rfl, G6.out, HR1.out, FU.out⟩
  case round =>
    obtain ⟨K4, mo, A4, e4, M4, d4, rfl, hw4, hgo, hru⟩ := hrel
    have W4 := Lib.hid hw4
    have GO := Lib.hid hgo
    have RU := Lib.hid hru
    have SP4 : Hid (wf64 K4.sp) := Lib.hid hru.wf
    have FRA := Lib.hid hw4.frA
    have FRM := Lib.hid hw4.frM
    clear hw4 hgo hru HR1 FU G6
    cases mo with
    | false =>
      have RE : Hid (R = (K4, false)) := Lib.hid (GO.out.symm.trans (CN.goL_stop rfl _))
      clear GO RU
      go_wp2
      refine wp_region_later (by kernel_rfl) (by kernel_rfl) ?_
      try simp only [Act.put]
      repeat (go_big_quiet_step (fail))
      refine wpQuiet_nil ?_
      rintro wd4 ⟨⟨_, b4⟩, rfl⟩
      have W5 := Lib.hid (W4.out.below b4)
      clear b4 W4
      go_wp2_with (first
        | (refine wpList_load_agg rfl 135 _ rfl g rfl (kvals A4 n e4 M4 m d4 K4) ?hz _ HU.out rfl sizeCL ?_; (case hz => exact W5.out.blk))
        | (go_at_call 64; refine (keep_any D (NB N w) c S (x.at_ K4) A4 n e4 M4 m d4 wd4 (W5.out.nb H.out) W5.out.bat (OffB.fresh ⟨W5.out.frA, W5.out.frM⟩ (fun j hj => hj.2)) HL.out).mono ?_; rintro r w7 ⟨rfl, h7, f7⟩;
           have H7 := Lib.hid h7; have F7 := Lib.hid f7; have K7 := Lib.hid (W5.out.kept7 f7 H.out); have B7 := Lib.hid (W5.out.bat7 f7 H.out);
           have R7 := Lib.hid ((HR.out.below W5.out.low).frm f7 (fun j e => by have e' : j = D.cm := e; rw [e']; exact HLO.out _ (.inr (.inr (.inr (.inr (.inr (.inr rfl)))))))); clear h7 f7)
        | (refine wpList_load_agg rfl 135 _ rfl g rfl (kvals A4 n e4 M4 m d4 K4) ?hz _ HU.out rfl sizeCL ?_; (case hz => exact K7.out))
        | (go_at_call 129; refine (kouts_fr A4 n e4 M4 m d4 K4 x.zs x.ms 4 none 0 0 [] now w7 B7.out (RowR.nil _) hm).mono ?_; rintro r w8 ⟨P, q8, f8, rfl, r8, p8, l8⟩; have P8 := Lib.hid (p8.mono (show lo ≤ w7.heap.size from Nat.le_trans R7.out.low (Nat.le_of_lt (heap_lt R7.out.blk))));
           have R8 := Lib.hid (R7.out.below l8); have O8 := Lib.hid r8; have H8 := Lib.hid (H7.out.below l8); have L8 := Lib.hid l8; clear r8 l8 p8 K7)
        | (refine wpList_store_one rfl 43 _ _ rfl rb 1 57 [v, .slice none 0 0] (.slice P q8 f8) rfl rfl ?hz (by show 1 < 2; decide) size1o rfl rfl ?_; (case hz => exact R8.out.blk); intro w9 k9 f9 _;
           have K9 : Hid (w9.heap[rb]? = some (resO v (.slice P q8 f8))) := Lib.hid k9; have F9 := Lib.hid f9; clear k9 f9))
      refine bodyPost_end (results_none rfl _ _ _) rfl ?_
      rw [HT.out, RE.out]
      simp only [Bool.false_eq_true, if_false, List.append_nil]
      have hd : DepM w9 D (NB N w) c (S.keep (x.at_ K4)) := H8.out.frm1 F9.out (RL.out rb (.inl rfl)) R8.out.ty (by decide) (by decide) (by decide) (by decide) (by decide) (by decide) (by decide)
      refine ⟨trivial, hd, ⟨_, _, res_told R8.out O8.out F9.out K9.out (outs_off R8.out O8.out) P8.out⟩, ?_⟩
      have f7 : Frm (fun j => D.G j ∨ RF rb v j) w w7 := (Frm.of_below W5.out.low).trans (F7.out.mono (F' := fun j => D.G j ∨ RF rb v j) (fun j _ e => .inl (.inr e))) (fun _ _ h => h)
      exact (f7.then_below L8.out).trans F9.out (fun j _ e => .inr (.inl e))
    | true =>
      have NF : Hid (D.fm ≠ g ∧ D.fm ≠ D.db) := Lib.hid ⟨by have := H.out.old (j := D.fm) (.inr (.inr (.inr (.inr (.inr (.inl rfl)))))); omega, ty_ne H.out.tfm H.out.tdb (by simp)⟩
      have WD : Hid (FallW w wr.drew D N c S x g w.heap.size K4 A4 n e4 M4 m d4) := Lib.hid (W4.out.below (ali_below (drew_ali wr)))
      have HCW : Hid (∀ wx, Below wr.heap.size wr wx → wx.cell? ⟨D.db, 20, none⟩ = some (.pointer (some ⟨D.fb, 0, none⟩)) ∧ wx.cell? ⟨g, 3, none⟩ = some (.int .i64 K4.sp)) :=
        Lib.hid (fun wx hb => ⟨cell_later hb (dobj_cells W4.out.dep.blk).2.2.2.2.1, cell_later hb (kobj_cells' W4.out.blk).2.2.2.1⟩)
      have D0 : Hid (Below wr.heap.size wr wr.drew) := Lib.hid (ali_below (drew_ali _))
      have WFH : Hid (wfH (x.id, K4.sp)) := Lib.hid ⟨HID.out, SP4.out⟩
      cases hcan : S.can c x.id K4.sp with
      | true =>
        have RE : Hid (R = (K4, true)) := Lib.hid (GO.out.symm.trans (CN.goL_stop (by rw [hcan]; rfl) _))
        have TK := Lib.hid (take_yes D.fb D.fm c.fbMax.toNat S.fb x.id K4.sp wr.drew WD.out.dep.fal WFH.out (DS.can_yes hcan).1 (DS.can_yes hcan).2)
        clear GO RU hcan
        go_wp2
        go_region_held3 (fun wx => wx.cell? ⟨D.db, 20, none⟩ = some (.pointer (some ⟨D.fb, 0, none⟩)) ∧ wx.cell? ⟨g, 3, none⟩ = some (.int .i64 K4.sp))
          (first
            | with_reducible exact HCW.out _ D0.out
            | (have hc5 := cc5; exact hc5))
          (first
            | (go_at_call 131; refine TK.out.mono ?_; rintro r w5 ⟨rfl, f5, p5⟩;
               have cc5 : w5.cell? ⟨D.db, 20, none⟩ = some (.pointer (some ⟨D.fb, 0, none⟩)) ∧ w5.cell? ⟨g, 3, none⟩ = some (.int .i64 K4.sp) :=
                 ⟨(World.cell?_of_block (f5.block _ (heap_lt WD.out.dep.blk) (fun e => NF.out.2 e.symm))).trans (HCW.out _ D0.out).1, (World.cell?_of_block (f5.block _ (heap_lt WD.out.blk) (fun e => NF.out.1 e.symm))).trans (HCW.out _ D0.out).2⟩;
               have F5 := Lib.hid f5; have P5 := Lib.hid p5; clear f5 p5))
        all_goals (
          have D5 : Hid (DepM w5 D (NU N w) c (S.fbB (insH (x.id, K4.sp) S.fb))) := Lib.hid (WD.out.dep.fal1 F5.out P5.out)
          have K5 : Hid (w5.heap[g]? = some (kobj A4 n e4 M4 m d4 K4)) := Lib.hid ((F5.out.block _ (heap_lt WD.out.blk) (fun e => NF.out.1 e.symm)).trans WD.out.blk)
          have B5 : Hid (Bat w5 A4 n e4 M4 m d4 x.zs x.ms) := Lib.hid (WD.out.bat.frm F5.out (OffB.fresh ⟨WD.out.frA, WD.out.frM⟩ (fun j e => by have e' : j = D.fm := e; rw [e']; exact H.out.old (.inr (.inr (.inr (.inr (.inr (.inl rfl)))))))))
          have G5 : Hid (Frm (fun j => D.G j) w w5) := Lib.hid ((Frm.of_below WD.out.low).trans (F5.out.mono (F' := fun j => D.G j) (fun j _ e => .inl e)) (fun _ _ h => h))
          have R5 : Hid (ResN w5 rb lo v L) := Lib.hid ((HR.out.below WD.out.low).frm F5.out (fun j e => by have e' : j = D.fm := e; rw [e']; exact HLO.out _ (.inr (.inr (.inr (.inr (.inr (.inl rfl))))))))
          have D5N : Hid (DepM w5 D (NB N w) c (S.fbB (insH (x.id, K4.sp) S.fb))) := Lib.hid (D5.out.grow (fun j hj => .inl (.inl hj.1)) (fun j hj => ⟨H.out.inN j hj, H.out.old hj⟩))
          clear cc5 F5 P5 WD HCW D0 TK D5 W4
          go_wp2_with (first
            | (refine wpList_load_agg rfl 135 _ rfl g rfl (kvals A4 n e4 M4 m d4 K4) ?hz _ HU.out rfl sizeCL ?_; (case hz => exact K5.out))
            | (go_at_call 64; refine (keep_any D (NB N w) c (S.fbB (insH (x.id, K4.sp) S.fb)) (x.at_ K4) A4 n e4 M4 m d4 w5 D5N.out B5.out (OffB.fresh ⟨FRA.out, FRM.out⟩ (fun j hj => hj.2)) HL.out).mono ?_; rintro r w7 ⟨rfl, h7, f7⟩;
               have H7 := Lib.hid h7; have F7 := Lib.hid f7;
               obtain ⟨_, _, c9⟩ := dobj_conf h7.blk;
               have R7 := Lib.hid (R5.out.frm f7 (fun j e => by have e' : j = D.cm := e; rw [e']; exact HLO.out _ (.inr (.inr (.inr (.inr (.inr (.inr rfl)))))))); clear h7 f7)
            | (go_at_call 132; refine (set_any rb lo v L x.id now c.fbTimeout w7 R7.out HLL.out (Nat.le_trans (Nat.le_of_lt (Nat.lt_of_le_of_lt R7.out.low (heap_lt R7.out.blk))) (Nat.le_refl _)) (by omega) (by omega) HCF.out.fbTimeout.1 HCF.out.fbTimeout.2).mono ?_; rintro r w8 ⟨rfl, r8, f8⟩;
               have R8 := Lib.hid r8; have F8 := Lib.hid f8; clear r8 f8 c9))
          refine bodyPost_ret (results_none rfl _ _ _) rfl ?_
          rw [HT.out, RE.out]
          simp only [if_true]
          obtain ⟨v8, r8⟩ := R8.out
          refine ⟨trivial, H7.out.resF R7.out F8.out (fun j hj => RL.out j hj), ⟨v8, _, r8.done⟩, ?_⟩
          have f7 : Frm (fun j => D.G j ∨ RF rb v j) w w7 := (G5.out.mono (F' := fun j => D.G j ∨ RF rb v j) (fun j _ e => .inl e)).trans (F7.out.mono (F' := fun j => D.G j ∨ RF rb v j) (fun j _ e => .inl (.inr e))) (fun _ _ h => h)
          exact f7.trans F8.out (fun j _ e => .inr e))
      | false =>
        have TK := Lib.hid (take_no D.fb D.fm c.fbMax.toNat S.fb x.id K4.sp wr.drew WD.out.dep.fal WFH.out (DS.can_no hcan))
        have CAN := Lib.hid hcan
        clear hcan
        go_wp2
        go_region_held3 (fun wx => wx.cell? ⟨D.db, 20, none⟩ = some (.pointer (some ⟨D.fb, 0, none⟩)) ∧ wx.cell? ⟨g, 3, none⟩ = some (.int .i64 K4.sp))
          (first
            | with_reducible exact HCW.out _ D0.out
            | with_reducible exact HCW.out _ t5)
          (first
            | (go_at_call 131; refine TK.out.mono ?_; rintro r w5 ⟨rfl, b5⟩; have t5 := D0.out.trans (b5.mono D0.out.size); have B5' := Lib.hid b5; clear b5))
        all_goals (
          have W5 := Lib.hid (WD.out.below B5'.out)
          clear t5 B5' WD HCW D0 TK W4
          have DD : Hid (DepM w5.drew D (NU N w) c S) := Lib.hid (W5.out.dep.ali (drew_ali _))
          have KD : Hid (w5.drew.heap[g]? = some (kobj A4 n e4 M4 m d4 K4)) := Lib.hid W5.out.blk
          have BD : Hid (Bat w5.drew A4 n e4 M4 m d4 x.zs x.ms) := Lib.hid (W5.out.bat.below (ali_below (drew_ali _)))
          have LD : Hid (Below w.heap.size w w5.drew) := Lib.hid (below_ali W5.out.low (drew_ali _))
          obtain ⟨wd, hwd⟩ : ∃ wd, w5.drew = wd := ⟨_, rfl⟩
          rw [hwd] at DD KD BD LD
          have HWD := Lib.hid hwd
          obtain ⟨q0, q1, q2, q3, q4, q5⟩ := kobj_cells' KD.out
          have ch0 : wd.cell? ⟨D.db, 7, none⟩ = some (.int .i64 c.chain) := (dobj_conf DD.out.blk).1
          clear hwd
          go_wp2
          refine wp_region_held_drew (S := fun wx => wx.cell? ⟨D.db, 7, none⟩ = some (.int .i64 c.chain)) (by kernel_rfl) (by rw [HWD.out]; exact ch0) (fun hHeld => ?_)
          rw [HWD.out] at hHeld ⊢
          clear W5 HWD
          refine wpAnyH_take (i := 1) (oi := ⟨_, _, _, _, _, _⟩) (v := ?_) rfl (by kernel_rfl) (by kernel_rfl) (by kernel_rfl) (fun _ _ _ h => h) (Or.inl ⟨by rfl, ?_⟩) (by assumption) ?_
          rotate_left
          · intro w hSw; (try dsimp only at hSw); go_simp; try (with_reducible rfl)
          try go_frame
          refine wpAnyH_take (i := 2) (oi := ⟨_, _, _, _, _, _⟩) (v := ?_) rfl (by kernel_rfl) (by kernel_rfl) (by kernel_rfl) (fun _ _ _ h => h) (Or.inl ⟨by rfl, ?_⟩) (by assumption) ?_
          rotate_left
          · intro w hSw; (try dsimp only at hSw); go_simp; try (with_reducible rfl)
          try go_frame
          refine wpAnyH_take (i := 3) (oi := ⟨_, _, _, _, _, _⟩) (v := ?_) rfl (by kernel_rfl) (by kernel_rfl) (by kernel_rfl) (fun _ _ _ h => h) (Or.inl ⟨by rfl, ?_⟩) (by assumption) ?_
          rotate_left
          · intro w hSw; (try dsimp only at hSw); go_simp; try (with_reducible rfl)
          try go_frame
          refine wpAnyH_take (i := 4) (oi := ⟨_, _, _, _, _, _⟩) (v := ?_) rfl (by kernel_rfl) (by kernel_rfl) (by kernel_rfl) (fun _ _ _ h => h) (Or.inl ⟨by rfl, ?_⟩) (by assumption) ?_
          rotate_left
          · intro w hSw; (try dsimp only at hSw); go_simp; try (with_reducible rfl)
          try go_frame
          refine wpAnyH_take (i := 5) (oi := ⟨_, _, _, _, _, _⟩) (v := ?_) rfl (by kernel_rfl) (by kernel_rfl) (by kernel_rfl) (fun _ _ _ h => h) (Or.inl ⟨by rfl, ?_⟩) (by assumption) ?_
          rotate_left
          · intro w hSw; (try dsimp only at hSw); go_simp; try (with_reducible rfl)
          try go_frame
          refine wpAnyH_take (i := 6) (oi := ⟨_, _, _, _, _, _⟩) (v := ?_) rfl (by kernel_rfl) (by kernel_rfl) (by kernel_rfl) (fun _ _ _ h => h) (Or.inl ⟨by rfl, ?_⟩) (by assumption) ?_
          rotate_left
          · intro w hSw; (try dsimp only at hSw); go_simp; try (with_reducible rfl)
          try go_frame
          refine wpAnyH_ready (rs := [0]) (by kernel_rfl) (by simp) ?_
          refine ready_cons (i := 0) (o := ⟨_, _, _, _, _, _⟩) rfl ?_ AllReadyH.nil
          intro K hK
          constructor
          go_simp
          refine hK.out _ _ ch0 (fun hHeld => ?_)
          clear hK K
          try go_frame
          refine wpAnyH_ready (rs := [7]) (by kernel_rfl) (by simp) ?_
          refine ready_cons (i := 7) (o := ⟨_, _, _, _, _, _⟩) rfl ?_ AllReadyH.nil
          intro K hK
          refine call_step (f := 130) (args := #[callV A4 n e4 M4 m d4 K4, .int .i64 z, .int .i64 c.chain]) rfl (by kernel_rfl) ?_
          refine (kfail_any A4 n e4 M4 m d4 K4 z c.chain x.zs x.ms wd BD.out hn hm SP4.out CW.out).mono ?_
          rintro r w5 ⟨A5, e5, M5, d5, rfl, b5, n5, l5⟩
          refine ⟨_, rfl, ?_⟩
          have B5 := Lib.hid b5
          have N5 := Lib.hid n5
          have L5 := Lib.hid l5
          have K5 := Lib.hid (kb_below KD.out l5)
          refine hK.out _ _ (cell_later l5 ch0) (fun hHeld => ?_)
          clear hK K ch0 b5 n5 l5
          try go_frame
          refine wpAnyH_take (i := 8) (oi := ⟨_, _, _, _, _, _⟩) (v := ?_) rfl (by kernel_rfl) (by kernel_rfl) (by kernel_rfl) (fun _ _ _ h => h) (Or.inl ⟨by rfl, ?_⟩) (by assumption) ?_
          rotate_left
          · intro w hSw; (try dsimp only at hSw); go_simp; try (with_reducible rfl)
          try go_frame
          refine wpAnyH_take (i := 9) (oi := ⟨_, _, _, _, _, _⟩) (v := ?_) rfl (by kernel_rfl) (by kernel_rfl) (by kernel_rfl) (fun _ _ _ h => h) (Or.inl ⟨by rfl, ?_⟩) (by assumption) ?_
          rotate_left
          · intro w hSw; (try dsimp only at hSw); go_simp; try (with_reducible rfl)
          try go_frame
          refine wpAnyH_take (i := 10) (oi := ⟨_, _, _, _, _, _⟩) (v := ?_) rfl (by kernel_rfl) (by kernel_rfl) (by kernel_rfl) (fun _ _ _ h => h) (Or.inl ⟨by rfl, ?_⟩) (by assumption) ?_
          rotate_left
          · intro w hSw; (try dsimp only at hSw); go_simp; try (with_reducible rfl)
          try go_frame
          refine wpAnyH_ready (rs := [11]) (by kernel_rfl) (by simp) ?_
          refine ready_cons (i := 11) (o := ⟨_, _, _, _, _, _⟩) rfl ?_ AllReadyH.nil
          intro K hK
          refine store_step rfl 135 _ _ rfl g 0 135 (kvals A4 n e4 M4 m d4 K4) (kvals A5 n e5 M5 m d5 (K4.fail z c.chain)) rfl rfl K5.out (by show 0 + 6 ≤ 6; decide) sizeCL (onesK _ _ _ _ _ _ _) ?_
          intro w6 k6 f6 _
          have K6 : Hid (w6.heap[g]? = some (kobj A5 n e5 M5 m d5 (K4.fail z c.chain))) := Lib.hid k6
          have F6 := Lib.hid f6
          refine hK.out _ _ (by rw [World.cell?_of_block (f6.block _ (heap_lt (kb_below DD.out.blk L5.out)) (by have := NG.out; show ¬ D.db = g; omega))]; exact (dobj_conf (kb_below DD.out.blk L5.out)).1) (fun hHeld => ?_)
          clear hK K k6 f6
          try go_frame
          refine wpAnyH_take (i := 12) (oi := ⟨_, _, _, _, _, _⟩) (v := ?_) rfl (by kernel_rfl) (by kernel_rfl) (by kernel_rfl) (fun _ _ _ h => h) (Or.inl ⟨by rfl, ?_⟩) (by assumption) ?_
          rotate_left
          · intro w hSw; (try dsimp only at hSw); go_simp; try (with_reducible rfl)
          try go_frame
          refine wpAnyH_done (by kernel_rfl) ?_ _
          have G6 : Hid (FallW w w6 D N c S x g w.heap.size (K4.fail z c.chain) A5 n e5 M5 m d5) := Lib.hid (FallW.put DD.out LD.out B5.out N5.out L5.out F6.out K6.out KD.out (by rw [← hg]; exact Nat.le_refl _))
          have FU2 := RU.out.fuel rfl
          obtain ⟨k1, hk1⟩ : ∃ k1, gk = k1 + 1 := ⟨gk - 1, by omega⟩
          have GS := Lib.hid (GO.out)
          have RS := Lib.hid (RU.out)
          rw [hk1] at GS RS
          go_wp2
          go_roundg k1
          case measure => omega
          case rel => exact ⟨_, _, A5, e5, M5, d5, rfl, G6.out, (CN.goL_step (by rw [CAN.out]; rfl) k1).symm.trans GS.out, RS.out.step HCH.out⟩)
end Go.Proofs.YtgnccpmkdgfjeaaGreat

namespace Go.Proofs.YtgnccpmkdgfjeaaGreat
set_option linter.unusedVariables false
open Go.ChangeShapes Go.WideShapes Go.ChangeAt Go.RowKit

theorem admit_nil (x : Int) (w : World) : Calls Tryz.prog 135 #[.pointer none, .int .i64 x] w fun r w' => r = .returned (.tuple #[.int .i64 3, .slice none 0 0]) ∧ w = w' := by
  go_enter Tryz.func135, Tryz.ntmps135
  go_wp2
  go_ret2
  exact ⟨rfl, rfl⟩
theorem admit_runs (b : Nat) (f : Fb) (S : BU) (x : Int) (w : World) (h : Bul w b f S) (hx : wf64 x) (hn : x ∈ S.run) :
    Calls Tryz.prog 135 #[.pointer (some ⟨b, 0, none⟩), .int .i64 x] w fun r w' => r = .returned (.tuple #[.int .i64 3, .slice none 0 0]) ∧ Below w.heap.size w w' := by
  have h1 := runs_bul b f S x w h hx
  rw [decide_eq_true hn] at h1
  have H1 := Lib.hid h1
  clear h h1 hx hn
  go_enter Tryz.func135, Tryz.ntmps135
  go_wp2_with fail
  refine H1.out.mono ?_
  rintro r w1 ⟨rfl, hb⟩
  have HB := Lib.hid hb
  clear hb H1
  go_wp2
  go_ret2
  exact ⟨rfl, HB.out⟩
theorem admit_waits (b : Nat) (f : Fb) (S : BU) (x : Int) (w : World) (h : Bul w b f S) (hx : wf64 x) (hn : x ∉ S.run) (hm : x ∈ S.wait) :
    Calls Tryz.prog 135 #[.pointer (some ⟨b, 0, none⟩), .int .i64 x] w fun r w' => r = .returned (.tuple #[.int .i64 3, .slice none 0 0]) ∧ Below w.heap.size w w' := by
  have h1 := runs_bul b f S x w h hx
  rw [decide_eq_false hn] at h1
  have H := Lib.hid h
  have HX := Lib.hid hx
  have HN := Lib.hid hn
  have R1 := Lib.hid h1
  have HM := Lib.hid hm
  clear hm
  clear h h1 hx hn
  go_enter Tryz.func135, Tryz.ntmps135
  go_wp2_with fail
  refine R1.out.mono ?_
  rintro r w1 ⟨rfl, b1⟩
  have h1 := H.out.below b1
  have h2 := waits_bul b f S x w1 h1
  rw [decide_eq_true HM.out] at h2
  have H1 := Lib.hid h1
  have B1 := Lib.hid b1
  have R2 := Lib.hid h2
  clear b1 h1 h2 R1
  go_wp2_with fail
  refine R2.out.mono ?_
  rintro r w2 ⟨rfl, b2⟩
  have H2 := Lib.hid (H1.out.below b2)
  have B2 := Lib.hid (B1.out.trans (b2.mono B1.out.size))
  clear b2 H1 B1 R2
  go_wp2
  go_ret2
  exact ⟨rfl, B2.out⟩
set_option maxHeartbeats 1000000 in
theorem admit_run (b : Nat) (f : Fb) (S : BU) (x : Int) (w : World) (h : Bul w b f S) (hx : wf64 x) (hn : x ∉ S.run) (hm : x ∉ S.wait) (hl : S.run.length < S.most) (he : S.wait = []) :
    Calls Tryz.prog 135 #[.pointer (some ⟨b, 0, none⟩), .int .i64 x] w fun r w' => r = .returned (.tuple #[.int .i64 1, .slice none 0 0]) ∧ Bul w' b f (S.runs x) ∧ Frm f.F w w' := by
  have h1 := runs_bul b f S x w h hx
  rw [decide_eq_false hn] at h1
  have H := Lib.hid h
  have HX := Lib.hid hx
  have HN := Lib.hid hn
  have R1 := Lib.hid h1
  have HM := Lib.hid hm
  have HL := Lib.hid hl
  have HE := Lib.hid he
  clear hm hl he
  clear h h1 hx hn
  go_enter Tryz.func135, Tryz.ntmps135
  go_wp2_with fail
  refine R1.out.mono ?_
  rintro r w1 ⟨rfl, b1⟩
  have h1 := H.out.below b1
  have h2 := waits_bul b f S x w1 h1
  rw [decide_eq_false HM.out] at h2
  have H1 := Lib.hid h1
  have B1 := Lib.hid b1
  have R2 := Lib.hid h2
  clear b1 h1 h2 R1
  go_wp2_with fail
  refine R2.out.mono ?_
  rintro r w2 ⟨rfl, b2⟩
  have H2 := Lib.hid (H1.out.below b2)
  have B2 := Lib.hid (B1.out.trans (b2.mono B1.out.size))
  clear b2 H1 B1 R2
  have hlen : ∀ v, Bul v b f S → Calls Tryz.prog 156 #[.pointer (some ⟨f.rb, 0, none⟩)] v fun r w' => r = .returned (.int .i64 0) ∧ w' = v := fun v hv => by
    have := len_ring f.rb S.que S.wait v hv.rng
    rwa [HE.out] at this
  have LEN := Lib.hid hlen
  have H0 := Lib.hid (H2.out.ali (drew_ali _))
  clear hlen
  go_wp2
  go_region_held3 (fun v => v.cell? ⟨b, 0, none⟩ = some (.pointer (some ⟨f.pb, 0, none⟩)) ∧ v.cell? ⟨b, 1, none⟩ = some (.pointer (some ⟨f.rb, 0, none⟩)))
    (first
      | with_reducible exact h3.cells
      | with_reducible exact h4.cells
      | with_reducible exact H0.out.cells)
    (first
      | (go_at_call 156; refine (LEN.out _ H0.out).mono ?_; rintro r wq ⟨rfl, rfl⟩)
      | (go_at_call 118; refine (holder_any x _).mono ?_; rintro r w3 ⟨rfl, b3⟩; have h3 := H0.out.below b3)
      | (go_at_call 131; refine (take_yes f.pb f.m S.most (hol S.run) x 0 _ h3.prm (wf_h HX.out) (by rw [length_hol]; exact HL.out) (by rw [mem_hol0]; exact HN.out)).mono ?_; rintro r w4 ⟨rfl, f4, p4⟩; rw [hol_snoc H.out.ok.nr HN.out] at p4; have h4 : Bul w4 b f (S.runs x) := h3.afterM f4 p4 (H.out.ok.runs HX.out HN.out HM.out HL.out)))
  go_wp2
  go_ret2
  exact ⟨rfl, h4, ((Frm.of_below (F := f.F) B2.out).ali (drew_ali _)).then_below b3 |>.trans (Fb.ofM f4) (fun _ _ h => h)⟩
set_option maxHeartbeats 1000000 in
theorem admit_wait0 (b : Nat) (f : Fb) (S : BU) (x : Int) (w : World) (h : Bul w b f S) (hx : wf64 x) (hn : x ∉ S.run) (hm : x ∉ S.wait) (hl : ¬ S.run.length < S.most) (he : S.wait = []) (hq : S.wait.length < S.que) :
    Calls Tryz.prog 135 #[.pointer (some ⟨b, 0, none⟩), .int .i64 x] w fun r w' => r = .returned (.tuple #[.int .i64 2, .slice none 0 0]) ∧ Bul w' b f (S.waits x) ∧ Frm f.F w w' := by
  have h1 := runs_bul b f S x w h hx
  rw [decide_eq_false hn] at h1
  have H := Lib.hid h
  have HX := Lib.hid hx
  have HN := Lib.hid hn
  have R1 := Lib.hid h1
  have HM := Lib.hid hm
  have HL := Lib.hid hl
  have HE := Lib.hid he
  have HQ := Lib.hid hq
  clear hm hl he hq
  clear h h1 hx hn
  go_enter Tryz.func135, Tryz.ntmps135
  go_wp2_with fail
  refine R1.out.mono ?_
  rintro r w1 ⟨rfl, b1⟩
  have h1 := H.out.below b1
  have h2 := waits_bul b f S x w1 h1
  rw [decide_eq_false HM.out] at h2
  have H1 := Lib.hid h1
  have B1 := Lib.hid b1
  have R2 := Lib.hid h2
  clear b1 h1 h2 R1
  go_wp2_with fail
  refine R2.out.mono ?_
  rintro r w2 ⟨rfl, b2⟩
  have H2 := Lib.hid (H1.out.below b2)
  have B2 := Lib.hid (B1.out.trans (b2.mono B1.out.size))
  clear b2 H1 B1 R2
  have c0 : ∀ p : Later w2, p.v.cell? ⟨b, 0, none⟩ = some (.pointer (some ⟨f.pb, 0, none⟩)) := fun p => p.cell H2.out.cells.1
  have c1 : ∀ p : Later w2, p.v.cell? ⟨b, 1, none⟩ = some (.pointer (some ⟨f.rb, 0, none⟩)) := fun p => p.cell H2.out.cells.2
  have LEN : Hid (∀ p : Later w2, Calls Tryz.prog 156 #[.pointer (some ⟨f.rb, 0, none⟩)] p.v fun r w' => r = .returned (.int .i64 0) ∧ p.v = w') := Lib.hid (fun p => by
    have := len_ring f.rb S.que S.wait p.v (H2.out.below p.low).rng
    rw [HE.out] at this
    exact this.mono (fun _ _ ⟨h, k⟩ => ⟨h, k.symm⟩))
  have TK : Hid (∀ p : Later w2, Calls Tryz.prog 131 #[.pointer (some ⟨f.pb, 0, none⟩), .agg #[.int .i64 x, .int .i64 0]] p.v fun r w' => r = .returned (.bool false) ∧ Below p.v.heap.size p.v w') :=
    Lib.hid (fun p => take_no f.pb f.m S.most (hol S.run) x 0 p.v (H2.out.below p.low).prm (wf_h HX.out) (.inl (by rw [length_hol]; exact HL.out)))
  go_wp2
  refine wp_region_later (by kernel_rfl) (by kernel_rfl) ?_
  repeat (go_big_quiet_step (first | (go_at_call 156; with_reducible exact Calls.later_is (LEN.out _)) | (go_at_call 118; with_reducible exact Calls.later_of (holder_any x _)) | (go_at_call 131; with_reducible exact Calls.later_of (TK.out _))))
  refine wpQuiet_nil ?_
  rintro w3 ⟨p3, h3⟩
  have b3 : Below w2.heap.size w2 w3 := h3 ▸ p3.low
  have H3 := Lib.hid (H2.out.below b3)
  have B3 : Hid (Below w.heap.size w w3) := Lib.hid (B2.out.trans (b3.mono B2.out.size))
  clear h3 p3 b3 c0 c1 LEN H2 B2
  obtain ⟨c0, c1⟩ := H3.out.cells
  have R3 := Lib.hid (push_some f.rb S.que x S.wait w3 H3.out.rng HQ.out HX.out)
  go_wp2_with fail
  refine R3.out.mono ?_
  rintro r w4 ⟨rfl, f4, r4⟩
  have H4 : Hid (Bul w4 b f (S.waits x)) := Lib.hid (H3.out.afterR f4 r4 (H.out.ok.waits HX.out HN.out HM.out HQ.out))
  have F4 : Hid (Frm f.F w w4) := Lib.hid ((Frm.of_below B3.out).trans (Fb.ofR f4) (fun _ _ h => h))
  clear f4 r4 R3 c0 c1
  go_wp2
  go_ret2
  exact ⟨rfl, H4.out, F4.out⟩
set_option maxHeartbeats 1000000 in
theorem admit_wait1 (b : Nat) (f : Fb) (S : BU) (x : Int) (w : World) (h : Bul w b f S) (hx : wf64 x) (hn : x ∉ S.run) (hm : x ∉ S.wait) (he : S.wait ≠ []) (hq : S.wait.length < S.que) :
    Calls Tryz.prog 135 #[.pointer (some ⟨b, 0, none⟩), .int .i64 x] w fun r w' => r = .returned (.tuple #[.int .i64 2, .slice none 0 0]) ∧ Bul w' b f (S.waits x) ∧ Frm f.F w w' := by
  have h1 := runs_bul b f S x w h hx
  rw [decide_eq_false hn] at h1
  have H := Lib.hid h
  have HX := Lib.hid hx
  have HN := Lib.hid hn
  have R1 := Lib.hid h1
  have HM := Lib.hid hm
  have HE := Lib.hid he
  have HQ := Lib.hid hq
  clear hm he hq
  clear h h1 hx hn
  go_enter Tryz.func135, Tryz.ntmps135
  go_wp2_with fail
  refine R1.out.mono ?_
  rintro r w1 ⟨rfl, b1⟩
  have h1 := H.out.below b1
  have h2 := waits_bul b f S x w1 h1
  rw [decide_eq_false HM.out] at h2
  have H1 := Lib.hid h1
  have B1 := Lib.hid b1
  have R2 := Lib.hid h2
  clear b1 h1 h2 R1
  go_wp2_with fail
  refine R2.out.mono ?_
  rintro r w2 ⟨rfl, b2⟩
  have H2 := Lib.hid (H1.out.below b2)
  have B2 := Lib.hid (B1.out.trans (b2.mono B1.out.size))
  clear b2 H1 B1 R2
  obtain ⟨k, hk⟩ : ∃ k, S.wait.length = k := ⟨_, rfl⟩
  have hk0 : ((k : Int) == 0) = false := by have := List.length_pos_iff.2 HE.out; simp; omega
  have c0 : ∀ p : Later w2, p.v.cell? ⟨b, 0, none⟩ = some (.pointer (some ⟨f.pb, 0, none⟩)) := fun p => p.cell H2.out.cells.1
  have c1 : ∀ p : Later w2, p.v.cell? ⟨b, 1, none⟩ = some (.pointer (some ⟨f.rb, 0, none⟩)) := fun p => p.cell H2.out.cells.2
  have LEN : Hid (∀ p : Later w2, Calls Tryz.prog 156 #[.pointer (some ⟨f.rb, 0, none⟩)] p.v fun r w' => r = .returned (.int .i64 k) ∧ p.v = w') := Lib.hid (fun p => by
    have := len_ring f.rb S.que S.wait p.v (H2.out.below p.low).rng
    rw [hk] at this
    exact this.mono (fun _ _ ⟨h, k⟩ => ⟨h, k.symm⟩))
  clear hk
  go_wp2
  refine wp_region_later (by kernel_rfl) (by kernel_rfl) ?_
  repeat (go_big_quiet_step (first | (go_at_call 156; with_reducible exact Calls.later_is (LEN.out _))))
  refine wpQuiet_nil ?_
  rintro w3 ⟨p3, h3⟩
  have b3 : Below w2.heap.size w2 w3 := h3 ▸ p3.low
  have H3 := Lib.hid (H2.out.below b3)
  have B3 : Hid (Below w.heap.size w w3) := Lib.hid (B2.out.trans (b3.mono B2.out.size))
  clear h3 p3 b3 c0 c1 LEN H2 B2
  obtain ⟨c0, c1⟩ := H3.out.cells
  have R3 := Lib.hid (push_some f.rb S.que x S.wait w3 H3.out.rng HQ.out HX.out)
  go_wp2_with fail
  refine R3.out.mono ?_
  rintro r w4 ⟨rfl, f4, r4⟩
  have H4 : Hid (Bul w4 b f (S.waits x)) := Lib.hid (H3.out.afterR f4 r4 (H.out.ok.waits HX.out HN.out HM.out HQ.out))
  have F4 : Hid (Frm f.F w w4) := Lib.hid ((Frm.of_below B3.out).trans (Fb.ofR f4) (fun _ _ h => h))
  clear f4 r4 R3 c0 c1
  go_wp2
  go_ret2
  exact ⟨rfl, H4.out, F4.out⟩
set_option maxHeartbeats 1000000 in
theorem admit_full0 (b : Nat) (f : Fb) (S : BU) (x : Int) (w : World) (h : Bul w b f S) (hx : wf64 x) (hn : x ∉ S.run) (hm : x ∉ S.wait) (hl : ¬ S.run.length < S.most) (he : S.wait = []) (hq : S.wait.length = S.que) :
    Calls Tryz.prog 135 #[.pointer (some ⟨b, 0, none⟩), .int .i64 x] w fun r w' => r = .returned (.tuple #[.int .i64 3, .slice none 0 0]) ∧ Below w.heap.size w w' := by
  have h1 := runs_bul b f S x w h hx
  rw [decide_eq_false hn] at h1
  have H := Lib.hid h
  have HX := Lib.hid hx
  have HN := Lib.hid hn
  have R1 := Lib.hid h1
  have HM := Lib.hid hm
  have HL := Lib.hid hl
  have HE := Lib.hid he
  have HQ := Lib.hid hq
  clear hm hl he hq
  clear h h1 hx hn
  go_enter Tryz.func135, Tryz.ntmps135
  go_wp2_with fail
  refine R1.out.mono ?_
  rintro r w1 ⟨rfl, b1⟩
  have h1 := H.out.below b1
  have h2 := waits_bul b f S x w1 h1
  rw [decide_eq_false HM.out] at h2
  have H1 := Lib.hid h1
  have B1 := Lib.hid b1
  have R2 := Lib.hid h2
  clear b1 h1 h2 R1
  go_wp2_with fail
  refine R2.out.mono ?_
  rintro r w2 ⟨rfl, b2⟩
  have H2 := Lib.hid (H1.out.below b2)
  have B2 := Lib.hid (B1.out.trans (b2.mono B1.out.size))
  clear b2 H1 B1 R2
  have c0 : ∀ p : Later w2, p.v.cell? ⟨b, 0, none⟩ = some (.pointer (some ⟨f.pb, 0, none⟩)) := fun p => p.cell H2.out.cells.1
  have c1 : ∀ p : Later w2, p.v.cell? ⟨b, 1, none⟩ = some (.pointer (some ⟨f.rb, 0, none⟩)) := fun p => p.cell H2.out.cells.2
  have LEN : Hid (∀ p : Later w2, Calls Tryz.prog 156 #[.pointer (some ⟨f.rb, 0, none⟩)] p.v fun r w' => r = .returned (.int .i64 0) ∧ p.v = w') := Lib.hid (fun p => by
    have := len_ring f.rb S.que S.wait p.v (H2.out.below p.low).rng
    rw [HE.out] at this
    exact this.mono (fun _ _ ⟨h, k⟩ => ⟨h, k.symm⟩))
  have TK : Hid (∀ p : Later w2, Calls Tryz.prog 131 #[.pointer (some ⟨f.pb, 0, none⟩), .agg #[.int .i64 x, .int .i64 0]] p.v fun r w' => r = .returned (.bool false) ∧ Below p.v.heap.size p.v w') :=
    Lib.hid (fun p => take_no f.pb f.m S.most (hol S.run) x 0 p.v (H2.out.below p.low).prm (wf_h HX.out) (.inl (by rw [length_hol]; exact HL.out)))
  go_wp2
  refine wp_region_later (by kernel_rfl) (by kernel_rfl) ?_
  repeat (go_big_quiet_step (first | (go_at_call 156; with_reducible exact Calls.later_is (LEN.out _)) | (go_at_call 118; with_reducible exact Calls.later_of (holder_any x _)) | (go_at_call 131; with_reducible exact Calls.later_of (TK.out _))))
  refine wpQuiet_nil ?_
  rintro w3 ⟨p3, h3⟩
  have b3 : Below w2.heap.size w2 w3 := h3 ▸ p3.low
  have H3 := Lib.hid (H2.out.below b3)
  have B3 : Hid (Below w.heap.size w w3) := Lib.hid (B2.out.trans (b3.mono B2.out.size))
  clear h3 p3 b3 c0 c1 LEN H2 B2
  obtain ⟨c0, c1⟩ := H3.out.cells
  have R3 := Lib.hid (push_full f.rb S.que x S.wait w3 H3.out.rng HQ.out)
  go_wp2_with fail
  refine R3.out.mono ?_
  rintro r w4 ⟨rfl, a4⟩
  have H4 := Lib.hid (H3.out.ali a4)
  have B4 := Lib.hid (below_ali B3.out a4)
  clear a4 R3 c0 c1 H3 B3
  have R4 := Lib.hid (pick_full b f S w4 H4.out HL.out)
  go_wp2_with fail
  refine R4.out.mono ?_
  rintro r w5 ⟨rfl, b5⟩
  have B5 := Lib.hid (B4.out.trans (b5.mono B4.out.size))
  clear b5 R4
  go_wp2
  go_ret2
  exact ⟨rfl, B5.out⟩
set_option maxHeartbeats 1000000 in
theorem admit_full1 (b : Nat) (f : Fb) (S : BU) (x : Int) (w : World) (h : Bul w b f S) (hx : wf64 x) (hn : x ∉ S.run) (hm : x ∉ S.wait) (hl : ¬ S.run.length < S.most) (he : S.wait ≠ []) (hq : S.wait.length = S.que) :
    Calls Tryz.prog 135 #[.pointer (some ⟨b, 0, none⟩), .int .i64 x] w fun r w' => r = .returned (.tuple #[.int .i64 3, .slice none 0 0]) ∧ Below w.heap.size w w' := by
  have h1 := runs_bul b f S x w h hx
  rw [decide_eq_false hn] at h1
  have H := Lib.hid h
  have HX := Lib.hid hx
  have HN := Lib.hid hn
  have R1 := Lib.hid h1
  have HM := Lib.hid hm
  have HL := Lib.hid hl
  have HE := Lib.hid he
  have HQ := Lib.hid hq
  clear hm hl he hq
  clear h h1 hx hn
  go_enter Tryz.func135, Tryz.ntmps135
  go_wp2_with fail
  refine R1.out.mono ?_
  rintro r w1 ⟨rfl, b1⟩
  have h1 := H.out.below b1
  have h2 := waits_bul b f S x w1 h1
  rw [decide_eq_false HM.out] at h2
  have H1 := Lib.hid h1
  have B1 := Lib.hid b1
  have R2 := Lib.hid h2
  clear b1 h1 h2 R1
  go_wp2_with fail
  refine R2.out.mono ?_
  rintro r w2 ⟨rfl, b2⟩
  have H2 := Lib.hid (H1.out.below b2)
  have B2 := Lib.hid (B1.out.trans (b2.mono B1.out.size))
  clear b2 H1 B1 R2
  obtain ⟨k, hk⟩ : ∃ k, S.wait.length = k := ⟨_, rfl⟩
  have hk0 : ((k : Int) == 0) = false := by have := List.length_pos_iff.2 HE.out; simp; omega
  have c0 : ∀ p : Later w2, p.v.cell? ⟨b, 0, none⟩ = some (.pointer (some ⟨f.pb, 0, none⟩)) := fun p => p.cell H2.out.cells.1
  have c1 : ∀ p : Later w2, p.v.cell? ⟨b, 1, none⟩ = some (.pointer (some ⟨f.rb, 0, none⟩)) := fun p => p.cell H2.out.cells.2
  have LEN : Hid (∀ p : Later w2, Calls Tryz.prog 156 #[.pointer (some ⟨f.rb, 0, none⟩)] p.v fun r w' => r = .returned (.int .i64 k) ∧ p.v = w') := Lib.hid (fun p => by
    have := len_ring f.rb S.que S.wait p.v (H2.out.below p.low).rng
    rw [hk] at this
    exact this.mono (fun _ _ ⟨h, k⟩ => ⟨h, k.symm⟩))
  clear hk
  go_wp2
  refine wp_region_later (by kernel_rfl) (by kernel_rfl) ?_
  repeat (go_big_quiet_step (first | (go_at_call 156; with_reducible exact Calls.later_is (LEN.out _))))
  refine wpQuiet_nil ?_
  rintro w3 ⟨p3, h3⟩
  have b3 : Below w2.heap.size w2 w3 := h3 ▸ p3.low
  have H3 := Lib.hid (H2.out.below b3)
  have B3 : Hid (Below w.heap.size w w3) := Lib.hid (B2.out.trans (b3.mono B2.out.size))
  clear h3 p3 b3 c0 c1 LEN H2 B2
  obtain ⟨c0, c1⟩ := H3.out.cells
  have R3 := Lib.hid (push_full f.rb S.que x S.wait w3 H3.out.rng HQ.out)
  go_wp2_with fail
  refine R3.out.mono ?_
  rintro r w4 ⟨rfl, a4⟩
  have H4 := Lib.hid (H3.out.ali a4)
  have B4 := Lib.hid (below_ali B3.out a4)
  clear a4 R3 c0 c1 H3 B3
  have R4 := Lib.hid (pick_full b f S w4 H4.out HL.out)
  go_wp2_with fail
  refine R4.out.mono ?_
  rintro r w5 ⟨rfl, b5⟩
  have B5 := Lib.hid (B4.out.trans (b5.mono B4.out.size))
  clear b5 R4
  go_wp2
  go_ret2
  exact ⟨rfl, B5.out⟩
theorem ints_new {base : Nat} (w : World) (x : Int) (hx : wf64 x) (hb : base ≤ w.heap.size) : Ints (w.alloc (.cells #[.int .i64 x] 3)) base (.slice (some ⟨w.heap.size, 0, none⟩) 1 1) [x] :=
  own_new (Has.new _ rfl) hb rfl (by simp) (by simpa using hx.lit) rfl
set_option maxHeartbeats 1000000 in
theorem admit_turn (b : Nat) (f : Fb) (S : BU) (x : Int) (w : World) (h : Bul w b f S) (hx : wf64 x) (hn : x ∉ S.run) (hm : x ∉ S.wait) (hl : S.run.length < S.most) (he : S.wait ≠ []) (hq : S.wait.length = S.que) :
    Calls Tryz.prog 135 #[.pointer (some ⟨b, 0, none⟩), .int .i64 x] w fun r w' => ∃ y v, r = .returned (.tuple #[.int .i64 2, v]) ∧ Ints w' w.heap.size v [y] ∧ ∃ l, S.wait = y :: l ∧ Bul w' b f ((S.turn y l).waits x) ∧ Frm f.F w w' := by
  have h1 := runs_bul b f S x w h hx
  rw [decide_eq_false hn] at h1
  have H := Lib.hid h
  have HX := Lib.hid hx
  have HN := Lib.hid hn
  have R1 := Lib.hid h1
  have HM := Lib.hid hm
  have HL := Lib.hid hl
  have HE := Lib.hid he
  have HQ := Lib.hid hq
  clear hm hl he hq
  clear h h1 hx hn
  go_enter Tryz.func135, Tryz.ntmps135
  go_wp2_with fail
  refine R1.out.mono ?_
  rintro r w1 ⟨rfl, b1⟩
  have h1 := H.out.below b1
  have h2 := waits_bul b f S x w1 h1
  rw [decide_eq_false HM.out] at h2
  have H1 := Lib.hid h1
  have B1 := Lib.hid b1
  have R2 := Lib.hid h2
  clear b1 h1 h2 R1
  go_wp2_with fail
  refine R2.out.mono ?_
  rintro r w2 ⟨rfl, b2⟩
  have H2 := Lib.hid (H1.out.below b2)
  have B2 := Lib.hid (B1.out.trans (b2.mono B1.out.size))
  clear b2 H1 B1 R2
  obtain ⟨k, hk⟩ : ∃ k, S.wait.length = k := ⟨_, rfl⟩
  have hk0 : ((k : Int) == 0) = false := by have := List.length_pos_iff.2 HE.out; simp; omega
  have c0 : ∀ p : Later w2, p.v.cell? ⟨b, 0, none⟩ = some (.pointer (some ⟨f.pb, 0, none⟩)) := fun p => p.cell H2.out.cells.1
  have c1 : ∀ p : Later w2, p.v.cell? ⟨b, 1, none⟩ = some (.pointer (some ⟨f.rb, 0, none⟩)) := fun p => p.cell H2.out.cells.2
  have LEN : Hid (∀ p : Later w2, Calls Tryz.prog 156 #[.pointer (some ⟨f.rb, 0, none⟩)] p.v fun r w' => r = .returned (.int .i64 k) ∧ p.v = w') := Lib.hid (fun p => by
    have := len_ring f.rb S.que S.wait p.v (H2.out.below p.low).rng
    rw [hk] at this
    exact this.mono (fun _ _ ⟨h, k⟩ => ⟨h, k.symm⟩))
  clear hk
  go_wp2
  refine wp_region_later (by kernel_rfl) (by kernel_rfl) ?_
  repeat (go_big_quiet_step (first | (go_at_call 156; with_reducible exact Calls.later_is (LEN.out _))))
  refine wpQuiet_nil ?_
  rintro w3 ⟨p3, h3⟩
  have b3 : Below w2.heap.size w2 w3 := h3 ▸ p3.low
  have H3 := Lib.hid (H2.out.below b3)
  have B3 : Hid (Below w.heap.size w w3) := Lib.hid (B2.out.trans (b3.mono B2.out.size))
  clear h3 p3 b3 c0 c1 LEN H2 B2
  obtain ⟨c0, c1⟩ := H3.out.cells
  have R3 := Lib.hid (push_full f.rb S.que x S.wait w3 H3.out.rng HQ.out)
  go_wp2_with fail
  refine R3.out.mono ?_
  rintro r w4 ⟨rfl, a4⟩
  have H4 := Lib.hid (H3.out.ali a4)
  have B4 := Lib.hid (below_ali B3.out a4)
  clear a4 R3 c0 c1 H3 B3
  obtain ⟨y, l, hyl⟩ : ∃ y l, S.wait = y :: l := by cases e : S.wait with
    | nil => exact (HE.out e).elim
    | cons y l => exact ⟨y, l, rfl⟩
  have R4 := Lib.hid (pick_one b f S y l w4 H4.out HL.out hyl)
  have HYL := Lib.hid hyl
  have hlq : l.length < S.que := by have := HQ.out; rw [hyl] at this; simp at this; omega
  have hnt : x ∉ S.run ++ [y] := fun hc => by
    rcases BU.mem_snoc hc with hc | hc
    · exact HN.out hc
    · exact HM.out (by rw [hyl, hc]; simp)
  have hmt : x ∉ l := fun hc => HM.out (by rw [hyl]; simp [hc])
  have ok5 : (S.turn y l).Ok := H.out.ok.turn hyl HL.out
  have wy : wf64 y := H.out.ok.ww y (by rw [hyl]; simp)
  have LQ := Lib.hid hlq
  have NT := Lib.hid hnt
  have MT := Lib.hid hmt
  have OK5 := Lib.hid ok5
  have WY := Lib.hid wy
  clear hyl hlq hnt hmt ok5 wy
  go_wp2_with fail
  refine R4.out.mono ?_
  rintro r w5 ⟨rfl, h5, f5⟩
  obtain ⟨c0, c1⟩ := h5.cells
  have H5 := Lib.hid h5
  have F5 : Hid (Frm f.F w w5) := Lib.hid ((Frm.of_below B4.out).trans f5 (fun _ _ h => h))
  have R5 := Lib.hid (push_some f.rb S.que x l w5 h5.rng LQ.out HX.out)
  clear h5 f5 R4
  go_wp2_with fail
  refine R5.out.mono ?_
  rintro r w6 ⟨rfl, f6, r6⟩
  have H6 : Hid (Bul w6 b f ((S.turn y l).waits x)) := Lib.hid (H5.out.afterR f6 r6 (OK5.out.waits HX.out NT.out MT.out LQ.out))
  have F6 : Hid (Frm f.F w w6) := Lib.hid (F5.out.trans (Fb.ofR f6) (fun _ _ h => h))
  clear f6 r6 R5 c0 c1 H5 F5
  go_wp2
  go_ret2
  exact ⟨y, _, rfl, ints_new w6 y WY.out (F6.out.size), l, HYL.out, H6.out.alloc _, F6.out.alloc _⟩
/-- Admit, as it comes. -/
theorem admit_bul (b : Nat) (f : Fb) (S : BU) (x : Int) (w : World) (h : Bul w b f S) (hx : wf64 x) :
    Calls Tryz.prog 135 #[.pointer (some ⟨b, 0, none⟩), .int .i64 x] w fun r w' => ∃ v, r = .returned (.tuple #[.int .i64 (S.tells x), v]) ∧ Ints w' w.heap.size v (S.lets x) ∧ Bul w' b f (S.adm x) ∧ Frm f.F w w' := by
  have hlw := h.ok.lw
  by_cases h0 : x ∈ S.run ∨ x ∈ S.wait
  · rw [show S.tells x = 3 by simp [BU.tells, h0], show S.lets x = [] by simp [BU.lets, h0], show S.adm x = S by simp [BU.adm, h0]]
    have hA : Calls Tryz.prog 135 #[.pointer (some ⟨b, 0, none⟩), .int .i64 x] w fun r w' => r = .returned (.tuple #[.int .i64 3, .slice none 0 0]) ∧ Below w.heap.size w w' := by
      by_cases hn : x ∈ S.run
      · exact admit_runs b f S x w h hx hn
      · exact admit_waits b f S x w h hx hn (h0.resolve_left hn)
    refine hA.mono ?_
    rintro r w' ⟨rfl, hb⟩
    exact ⟨_, rfl, Ints.nil _ _, h.below hb, Frm.of_below hb⟩
  · have hn : x ∉ S.run := fun e => h0 (.inl e)
    have hm : x ∉ S.wait := fun e => h0 (.inr e)
    by_cases h1 : S.run.length < S.most ∧ S.wait = []
    · rw [show S.tells x = 1 by simp only [BU.tells, if_neg h0, if_pos h1], show S.lets x = [] by simp only [BU.lets, if_neg h0, if_pos h1], show S.adm x = S.runs x by simp only [BU.adm, if_neg h0, if_pos h1]]
      refine (admit_run b f S x w h hx hn hm h1.1 h1.2).mono ?_
      rintro r w' ⟨rfl, h2, h3⟩
      exact ⟨_, rfl, Ints.nil _ _, h2, h3⟩
    · by_cases h2 : S.wait.length < S.que
      · rw [show S.tells x = 2 by simp only [BU.tells, if_neg h0, if_neg h1, if_pos h2], show S.lets x = [] by simp only [BU.lets, if_neg h0, if_neg h1, if_pos h2], show S.adm x = S.waits x by simp only [BU.adm, if_neg h0, if_neg h1, if_pos h2]]
        have hA : Calls Tryz.prog 135 #[.pointer (some ⟨b, 0, none⟩), .int .i64 x] w fun r w' => r = .returned (.tuple #[.int .i64 2, .slice none 0 0]) ∧ Bul w' b f (S.waits x) ∧ Frm f.F w w' := by
          by_cases he : S.wait = []
          · exact admit_wait0 b f S x w h hx hn hm (fun hl => h1 ⟨hl, he⟩) he h2
          · exact admit_wait1 b f S x w h hx hn hm he h2
        refine hA.mono ?_
        rintro r w' ⟨rfl, h2, h3⟩
        exact ⟨_, rfl, Ints.nil _ _, h2, h3⟩
      · have hq : S.wait.length = S.que := by omega
        cases he : S.wait with
        | nil =>
          have hl : ¬ S.run.length < S.most := fun hl => h1 ⟨hl, he⟩
          rw [show S.tells x = 3 by unfold BU.tells; rw [if_neg h0, if_neg h1, if_neg h2]; simp only [he], show S.lets x = [] by unfold BU.lets; rw [if_neg h0, if_neg h1, if_neg h2]; simp only [he], show S.adm x = S by unfold BU.adm; rw [if_neg h0, if_neg h1, if_neg h2]; simp only [he]]
          refine (admit_full0 b f S x w h hx hn hm hl he hq).mono ?_
          rintro r w' ⟨rfl, hb⟩
          exact ⟨_, rfl, Ints.nil _ _, h.below hb, Frm.of_below hb⟩
        | cons y l =>
          have hne : S.wait ≠ [] := by rw [he]; simp
          by_cases hl : S.run.length < S.most
          · rw [show S.tells x = 2 by unfold BU.tells; rw [if_neg h0, if_neg h1, if_neg h2]; simp only [he, if_pos hl], show S.lets x = [y] by unfold BU.lets; rw [if_neg h0, if_neg h1, if_neg h2]; simp only [he, if_pos hl], show S.adm x = (S.turn y l).waits x by unfold BU.adm; rw [if_neg h0, if_neg h1, if_neg h2]; simp only [he, if_pos hl]]
            refine (admit_turn b f S x w h hx hn hm hl hne hq).mono ?_
            rintro r w' ⟨y', v, rfl, hi, l', e, h5, h6⟩
            rw [he] at e
            injection e with e1 e2
            subst e1 e2
            exact ⟨_, rfl, hi, h5, h6⟩
          · rw [show S.tells x = 3 by unfold BU.tells; rw [if_neg h0, if_neg h1, if_neg h2]; simp only [he, if_neg hl], show S.lets x = [] by unfold BU.lets; rw [if_neg h0, if_neg h1, if_neg h2]; simp only [he, if_neg hl], show S.adm x = S by unfold BU.adm; rw [if_neg h0, if_neg h1, if_neg h2]; simp only [he, if_neg hl]]
            refine (admit_full1 b f S x w h hx hn hm hl hne hq).mono ?_
            rintro r w' ⟨rfl, hb⟩
            exact ⟨_, rfl, Ints.nil _ _, h.below hb, Frm.of_below hb⟩
end Go.Proofs.YtgnccpmkdgfjeaaGreat

namespace Go.Proofs.YtgnccpmkdgfjeaaGreat
set_option linter.unusedVariables false
set_option maxRecDepth 100000
open Go.ChangeShapes Go.WideShapes Go.ChangeAt Go.RowKit

/-- A result by value: what is to be done, and what came of commands; its rows are new since there were lo blocks. -/
def ResV (w : World) (lo : Nat) (r : Value) (L : List DA) (O : List Ot) : Prop := ∃ A n e P q f, r = .agg #[.slice A n e, .slice P q f] ∧ RowR arec w A n L ∧ RowR orec w P q O ∧ Fresh lo A ∧ Fresh lo P
theorem undRs : ∃ fs, Tryz.prog.underlying 57 = some (.struct fs) := ⟨_, Tryz.underlying57⟩
theorem sizeRs : (Tryz.prog.info? 57).map (·.size) = some 2 := by kernel_rfl
theorem allocRs (w : World) : (Instr.alloc 57 true (.tuple #[])).run Tryz.prog w = .ok (.pointer (some ⟨w.heap.size, 0, none⟩)) (w.alloc (resO (.slice none 0 0) (.slice none 0 0))) := by kernel_rfl
theorem buildRs (w : World) : (Instr.build 57 #[]).run Tryz.prog w = .ok (.agg (aggV [.slice none 0 0, .slice none 0 0])) w := by kernel_rfl
theorem onesRs (A P : Option Addr) (n e q f : Nat) : Ones [.slice A n e, .slice P q f] := by intro v hv; simp at hv; rcases hv with rfl | rfl <;> rfl
theorem loadRs {w : World} {g : Nat} {v o : Value} (h : w.heap[g]? = some (resO v o)) : (loadVar 57 ⟨g, 0, none⟩).run Tryz.prog w = .ok (.agg #[v, o]) w := by
  obtain ⟨fs, hu⟩ := undRs
  exact run_load_agg w _ g [v, o] _ h hu rfl sizeRs
theorem resN_new {w : World} {rb lo : Nat} (h : w.heap[rb]? = some (resO (.slice none 0 0) (.slice none 0 0))) (hl : lo ≤ rb) : ResN w rb lo (.slice none 0 0) [] := ⟨h, OwnR.nil _ _ _, hl⟩
/-- Rows of outcomes, and of acts, do not lie in a block of slices. -/
theorem out_apart {w : World} {rb : Nat} {A B : Option Addr} {n c k e : Nat} {O : List Ot} {P : Option Addr} {q : Nat} (h : w.heap[rb]? = some (resO (.slice A n c) (.slice B k e))) (hr : RowR orec w P q O) : OffR (· = rb) P q := by
  intro h0 b off e1 hb
  have hb' : b = rb := hb
  subst hb'
  obtain ⟨b', off', x, e', _, hc⟩ := hr.out h0
  rw [e1] at e'
  injection e' with e'
  injection e' with e1 e2
  subst e1 e2
  have h1 := range_cell hc
  rw [Nat.zero_mul, Nat.add_zero, cell_of h] at h1
  match off, h1 with
  | 0, h1 => simp [aggV] at h1
  | 1, h1 => simp [aggV] at h1
  | k + 2, h1 => simp [aggV] at h1
theorem act_apart {w : World} {rb : Nat} {A B : Option Addr} {n c k e : Nat} {O : List DA} {P : Option Addr} {q : Nat} (h : w.heap[rb]? = some (resO (.slice A n c) (.slice B k e))) (hr : RowR arec w P q O) : OffR (· = rb) P q := by
  intro h0 b off e1 hb
  have hb' : b = rb := hb
  subst hb'
  obtain ⟨b', off', x, e', _, _, hc⟩ := hr.at_ h0
  rw [e1] at e'
  injection e' with e'
  injection e' with e1 e2
  subst e1 e2
  have h1 := hc 0 _ rfl
  simp only [Nat.zero_mul, Nat.add_zero] at h1
  rw [cell_of h] at h1
  match off, h1 with
  | 0, h1 => simp [aggV] at h1
  | 1, h1 => simp [aggV] at h1
  | k + 2, h1 => simp [aggV] at h1
/-- A result under way as its value. -/
theorem ResD.val {w : World} {rb lo : Nat} {v o : Value} {L : List DA} {O : List Ot} (h : ResD w rb lo v o L O) : ∃ A n e P q f, v = .slice A n e ∧ o = .slice P q f ∧ RowR arec w A n L ∧ RowR orec w P q O ∧ Fresh lo A ∧ Fresh lo P := by
  obtain ⟨A, n, e, rfl, hrow, _, _, _⟩ := h.own.row'
  obtain ⟨P, q, f, rfl, ho, hf⟩ := h.outs
  exact ⟨A, n, e, P, q, f, rfl, rfl, hrow, ho, h.own.fresh, hf⟩
theorem ResV.cell {w w' : World} {lo g : Nat} {A P B C : Option Addr} {n e q f k k' m m' : Nat} {L : List DA} {O : List Ot} (ha : RowR arec w A n L) (ho : RowR orec w P q O) (h1 : Fresh lo A) (h2 : Fresh lo P) (hg : w.heap[g]? = some (resO (.slice B k k') (.slice C m m'))) (hf : Frm (· = g) w w') : ResV w' lo (.agg #[.slice A n e, .slice P q f]) L O :=
  ⟨A, n, e, P, q, f, rfl, ha.apart hf (fun b off e h0 => act_apart hg ha h0 b off e), ho.apart hf (fun b off e h0 => out_apart hg ho h0 b off e), h1, h2⟩
section
variable (c : Cnf) (S : DS) (now k : Nat) (id : Int)
theorem DS.count_cs : (S.count c now id k).cs = S.cs := by unfold DS.count; dsimp only; split; (split <;> rfl); (split <;> rfl)
theorem DS.count_fb : (S.count c now id k).fb = S.fb := by unfold DS.count; dsimp only; split; (split <;> rfl); (split <;> rfl)
theorem DS.count_bul : (S.count c now id k).bul = S.bul := by unfold DS.count; dsimp only; split; (split <;> rfl); (split <;> rfl)
theorem DS.count_his : (S.count c now id k).ht = S.ht ∧ (S.count c now id k).hF = S.hF := by unfold DS.count; dsimp only; split; (split <;> exact ⟨rfl, rfl⟩); (split <;> exact ⟨rfl, rfl⟩)
end
theorem DS.Has.put {S : DS} {z : Int} {x : CL} (h : S.Has z) (h1 : x.zs.length ≤ 1000) (h2 : x.ms.length ≤ 1000) : (S.put x).Has z := by
  obtain ⟨y, hy, a, b⟩ := h
  by_cases he : z = x.id
  · exact ⟨x, by rw [DS.find_put, if_pos he], h1, h2⟩
  · exact ⟨y, by rw [DS.find_put, if_neg he]; exact hy, a, b⟩
theorem DS.Has.put_self (S : DS) {x : CL} (h1 : x.zs.length ≤ 1000) (h2 : x.ms.length ≤ 1000) : (S.put x).Has x.id := ⟨x, by rw [DS.find_put, if_pos rfl], h1, h2⟩
theorem BU.lets_wait {S : BU} {x z : Int} (h : z ∈ S.lets x) : z ∈ S.wait := by
  unfold BU.lets at h
  split at h
  · cases h
  · split at h
    · cases h
    · split at h
      · cases h
      · split at h
        · cases h
        · rename_i y l hw
          split at h
          · rw [List.mem_singleton] at h
            subst h
            rw [hw]
            simp
          · cases h
theorem row_rowR {w : World} {A : Option Addr} {n : Nat} {zs : List Int} (h : Row .i64 w A n zs) (hl : zs.length = n) : RowR irec w A n zs := by
  obtain ⟨h1, h2, h3, h4⟩ := h
  refine ⟨hl, h2, ?_⟩
  rcases h3 with h3 | ⟨b, off, e, hc⟩
  · exact .inl h3
  · by_cases h0 : n = 0
    · exact .inl h0
    · refine .inr ⟨b, off, e, cell_lt (hc 0 (by omega)), fun j u hu => ?_⟩
      have hj := (List.getElem?_eq_some_iff.1 hu).1
      rw [irec.flat_length] at hj
      have hj' : j < zs.length := by have : irec.size = 1 := rfl; rw [this] at hj; omega
      have hv := irec.flat_at (V := zs) (i := j) (k := 0) (a := zs.getD j 0) (u := .int .i64 (zs.getD j 0)) (by rw [List.getD_eq_getElem?_getD, List.getElem?_eq_getElem hj']; rfl) rfl
      rw [show j * irec.size + 0 = j by show j * 1 + 0 = j; omega] at hv
      rw [hv] at hu
      injection hu with hu
      rw [← hu]
      exact hc j hj'
theorem NB.sub {N : Nat → Prop} {w w' : World} (h : w.heap.size ≤ w'.heap.size) {j : Nat} (hj : NB N w j) : NB (NU N w) w' j := ⟨.inl hj.1, Nat.lt_of_lt_of_le hj.2 h⟩
theorem DepM.back {w w4 w5 : World} {D : DB} {N : Nat → Prop} {c : Cnf} {S T : DS} (h : DepM w D N c S) (h5 : DepM w5 D (NB (NU N w) w4) c T) (hs : w.heap.size ≤ w4.heap.size) : DepM w5 D (NB N w) c T :=
  h5.grow (fun j hj => .inl (NB.sub hs hj)) (fun j hj => ⟨h.inN j hj, h.old hj⟩)

set_option maxHeartbeats 4000000 in
theorem refuse_any (D : DB) (N : Nat → Prop) (c : Cnf) (S : DS) (x : CL) (A : Option Addr) (n e : Nat) (M : Option Addr) (m d : Nat) (rb lo : Nat) (v : Value) (L : List DA) (now : Nat) (w : World)
    (h : DepM w D N c S) (hb : Bat w A n e M m d x.zs x.ms) (hl : S.cs.length < maxLen) (hr : ResN w rb lo v L) (hN : ∀ j, RF rb v j → N j) (hn : n ≤ 1000) (hm : m ≤ 1000) (hlo : ∀ j, D.F j → j < lo) (hll : L.length ≤ 1000)
    (hcf : c.Fits) (hch : c.chain ≤ 3) (hsp : 0 ≤ x.k.sp ∧ x.k.sp ≤ 3) (hnow : now ≤ 18446744073709551615) (ho : OffB N A n M m) :
    Calls Tryz.prog 136 #[ptr D.db, ptr rb, .int .u64 now, callV A n e M m d x.k] w fun r w' => r = .returned (.tuple #[]) ∧ DepM w' D (NB N w) c (S.refused c now x).S ∧ (∃ v' o, ResD w' rb lo v' o (L ++ (S.refused c now x).acts) (S.refused c now x).outs) ∧ Frm (fun j => D.F j ∨ RF rb v j) w w' := by
  obtain ⟨g, hg⟩ : ∃ g, w.heap.size = g := ⟨_, rfl⟩
  obtain ⟨fs, hu⟩ := undCL
  have HU := Lib.hid hu
  have H := Lib.hid h
  have HB := Lib.hid hb
  have HL := Lib.hid hl
  have HR := Lib.hid hr
  have HN := Lib.hid hN
  have HLO := Lib.hid hlo
  have HO := Lib.hid ho
  have NC : Hid (¬ D.C g) := Lib.hid (fun hc => by have := h.old (DB.C_F hc); omega)
  obtain ⟨T, hT⟩ : ∃ T, S.refused c now x = T := ⟨_, rfl⟩
  rw [hT]
  by_cases hp : S.pr = x.id
  · have hp1 : (S.pr == leadL x.ms) = true := by rw [show leadL x.ms = x.id from rfl, hp]; simp
    have hT' : T = ((S.backB.pr_ 0).count c now x.id 3).fall c now x 3 := by rw [← hT]; unfold DS.refused; rw [if_pos hp]
    have HT := Lib.hid hT'
    clear hT hT' hp h hb hl hr hN hlo hu ho
    unfold ptr
    go_enter Tryz.func136, Tryz.ntmps136
    go_wp2_with (first
      | (refine wpList_box_agg rfl 135 _ rfl g hg (kvals A n e M m d x.k) rfl ?_; intro w1 k1 l1 s1;
         have q0 : w1.cell? ⟨g, 0, none⟩ = some (.slice A n e) := vobj_cell k1 rfl; have q1 : w1.cell? ⟨g, 1, none⟩ = some (.slice M m d) := vobj_cell k1 rfl;
         have K1 := Lib.hid k1; have L1 : Hid (Below w.heap.size w w1) := Lib.hid (by rw [hg]; exact l1); clear k1 l1 s1)
      | (go_at_call 73; refine (blead_any A n e M m d x.zs x.ms w1 (HB.out.below L1.out)).mono ?_; rintro r w2 ⟨rfl, l2⟩;
         have K2 := Lib.hid (kb_below K1.out l2); have L2 := Lib.hid (L1.out.trans (l2.mono L1.out.size)); clear q0 q1 l2;
         obtain ⟨c0, _, _, _, _, _, c22⟩ := dobj_cells (H.out.below L2.out).blk;
         have c22' : w2.cell? ⟨D.db, 22, none⟩ = some (.int .i64 S.pr) := c22; clear c22)
      | (go_at_call 171; refine (back_brk D.kb _ w2 (H.out.below L2.out).brk).mono ?_; rintro r w3 ⟨rfl, x3, f3⟩;
         have K3 : Hid (w3.heap[g]? = some (kobj A n e M m d x.k)) := Lib.hid ((f3.block g (heap_lt K2.out) (fun e => NC.out (.inr (.inl e)))).trans K2.out); have H3 : Hid (DepM w3 D N c S.backB) := Lib.hid ((H.out.below L2.out).brk1 f3 x3); have F3 := Lib.hid f3; clear x3 f3 c22' c0)
      | (refine wpList_store_one rfl 3 _ _ rfl D.db 22 114 (depV D c S.pr) (.int .i64 0) rfl rfl ?hz (by show 22 < 23; decide) size1p rfl rfl ?_; (case hz => exact H3.out.blk); intro w4 k4 f4 _;
         have K4 : Hid (w4.heap[g]? = some (kobj A n e M m d x.k)) := Lib.hid ((f4.block g (heap_lt K3.out) (fun e => NC.out (.inl e))).trans K3.out); have H4 : Hid (DepM w4 D N c (S.backB.pr_ 0)) := Lib.hid (H3.out.pr2 f4 k4); 
         have G4 : Hid (Frm D.C w w4) := Lib.hid (((Frm.of_below L2.out).trans (F3.out.mono (F' := D.C) (fun j _ e => .inr (.inl e))) (fun _ _ h => h)).trans (f4.mono (F' := D.C) (fun j _ e => .inl e)) (fun _ _ h => h)); clear k4 f4)
      | (go_at_call 66; go_loud (
         refine (count_any D N c (S.backB.pr_ 0) now 3 x.id w4 H4.out hcf hnow (by decide)).mono ?_; rintro r w5 ⟨rfl, h5, f5⟩;
         have H5 := Lib.hid h5; have F5 : Hid (Frm D.C w w5) := Lib.hid (G4.out.trans f5 (fun _ _ h => h));
         have K5 : Hid (w5.heap[g]? = some (kobj A n e M m d x.k)) := Lib.hid ((f5.block g (heap_lt K4.out) NC.out).trans K4.out);
         have R5 : Hid (ResN w5 rb lo v L) := Lib.hid (HR.out.frm F5.out (fun j hj => HLO.out j (DB.C_F hj)));
         have B5 : Hid (Bat w5 A n e M m d x.zs x.ms) := Lib.hid (HB.out.frm F5.out (HO.out.mono (fun j hj => H.out.inN j (DB.C_F hj))));
         have HL5 : Hid (((S.backB.pr_ 0).count c now x.id 3).cs.length < maxLen) := Lib.hid (by rw [DS.count_cs]; exact HL.out); clear h5 f5))
      | (refine wpList_load_agg rfl 135 _ rfl g rfl (kvals A n e M m d x.k) ?hz _ HU.out rfl sizeCL ?_; (case hz => exact K5.out))
      | (go_at_call 70; refine (fall_any D N c _ x A n e M m d rb lo v L now 3 w5 H5.out B5.out HL5.out R5.out HN.out hn hm HLO.out hll hcf hch hsp hnow).mono ?_; rintro r w6 ⟨rfl, h6, r6, f6⟩;
         have H6 := Lib.hid h6; have R6 := Lib.hid r6; have F6 := Lib.hid f6; clear h6 r6 f6))
    refine bodyPost_end (results_none rfl _ _ _) rfl ?_
    rw [HT.out]
    refine ⟨rfl, H6.out.grow (fun j hj => .inl ⟨hj.1, Nat.lt_of_lt_of_le hj.2 F5.out.size⟩) (fun j hj => ⟨H.out.inN j hj, H.out.old hj⟩), R6.out, ?_⟩
    refine (F5.out.mono (F' := fun j => D.F j ∨ RF rb v j) (fun j _ hj => .inl (DB.C_F hj))).trans F6.out (fun j _ hj => ?_)
    rcases hj with hj | hj
    · exact .inl (DB.G_F hj)
    · exact .inr hj
  · have hp1 : (S.pr == leadL x.ms) = false := by rw [show leadL x.ms = x.id from rfl]; simp [hp]
    have hT' : T = (S.count c now x.id 3).fall c now x 3 := by rw [← hT]; unfold DS.refused; rw [if_neg hp]
    have HT := Lib.hid hT'
    clear hT hT' hp h hb hl hr hN hlo hu ho
    unfold ptr
    go_enter Tryz.func136, Tryz.ntmps136
    go_wp2_with (first
      | (refine wpList_box_agg rfl 135 _ rfl g hg (kvals A n e M m d x.k) rfl ?_; intro w1 k1 l1 s1;
         have q0 : w1.cell? ⟨g, 0, none⟩ = some (.slice A n e) := vobj_cell k1 rfl; have q1 : w1.cell? ⟨g, 1, none⟩ = some (.slice M m d) := vobj_cell k1 rfl;
         have K1 := Lib.hid k1; have L1 : Hid (Below w.heap.size w w1) := Lib.hid (by rw [hg]; exact l1); clear k1 l1 s1)
      | (go_at_call 73; refine (blead_any A n e M m d x.zs x.ms w1 (HB.out.below L1.out)).mono ?_; rintro r w2 ⟨rfl, l2⟩;
         have K2 := Lib.hid (kb_below K1.out l2); have L2 := Lib.hid (L1.out.trans (l2.mono L1.out.size)); clear q0 q1 l2;
         obtain ⟨_, _, _, _, _, _, c22⟩ := dobj_cells (H.out.below L2.out).blk;
         have c22' : w2.cell? ⟨D.db, 22, none⟩ = some (.int .i64 S.pr) := c22; clear c22)
      | (go_at_call 66; go_loud (
         refine (count_any D N c S now 3 x.id w2 (H.out.below L2.out) hcf hnow (by decide)).mono ?_; rintro r w5 ⟨rfl, h5, f5⟩;
         have H5 := Lib.hid h5; have F5 : Hid (Frm D.C w w5) := Lib.hid ((Frm.of_below L2.out).trans f5 (fun _ _ h => h));
         have K5 : Hid (w5.heap[g]? = some (kobj A n e M m d x.k)) := Lib.hid ((f5.block g (heap_lt K2.out) NC.out).trans K2.out);
         have R5 : Hid (ResN w5 rb lo v L) := Lib.hid (HR.out.frm F5.out (fun j hj => HLO.out j (DB.C_F hj)));
         have B5 : Hid (Bat w5 A n e M m d x.zs x.ms) := Lib.hid (HB.out.frm F5.out (HO.out.mono (fun j hj => H.out.inN j (DB.C_F hj))));
         have HL5 : Hid ((S.count c now x.id 3).cs.length < maxLen) := Lib.hid (by rw [DS.count_cs]; exact HL.out); clear h5 f5))
      | (refine wpList_load_agg rfl 135 _ rfl g rfl (kvals A n e M m d x.k) ?hz _ HU.out rfl sizeCL ?_; (case hz => exact K5.out))
      | (go_at_call 70; refine (fall_any D N c _ x A n e M m d rb lo v L now 3 w5 H5.out B5.out HL5.out R5.out HN.out hn hm HLO.out hll hcf hch hsp hnow).mono ?_; rintro r w6 ⟨rfl, h6, r6, f6⟩;
         have H6 := Lib.hid h6; have R6 := Lib.hid r6; have F6 := Lib.hid f6; clear h6 r6 f6))
    refine bodyPost_end (results_none rfl _ _ _) rfl ?_
    rw [HT.out]
    refine ⟨rfl, H6.out.grow (fun j hj => .inl ⟨hj.1, Nat.lt_of_lt_of_le hj.2 F5.out.size⟩) (fun j hj => ⟨H.out.inN j hj, H.out.old hj⟩), R6.out, ?_⟩
    refine (F5.out.mono (F' := fun j => D.F j ∨ RF rb v j) (fun j _ hj => .inl (DB.C_F hj))).trans F6.out (fun j _ hj => ?_)
    rcases hj with hj | hj
    · exact .inl (DB.G_F hj)
    · exact .inr hj
end Go.Proofs.YtgnccpmkdgfjeaaGreat
