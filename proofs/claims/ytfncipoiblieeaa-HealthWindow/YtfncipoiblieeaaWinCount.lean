/- Contract of package window's Counts. -/
import Derived.Test.YtfncipoiblieeaaWinDo
import Derived.Test.YtfncipoiblieeaaSatTwo
namespace Go.Proofs.Ytfncipoiblieeaa
set_option linter.unusedVariables false
open Go.ChangeShapes Go.WideShapes Go.ChangeAt Go.RowKit

theorem Frm.new {F : Nat → Prop} {a w : World} (h : Frm F a w) {g : Nat} (hg : a.heap.size ≤ g) (o : Nat) (u : Value) : Frm F a (w.setCell ⟨g, o, none⟩ u) :=
  ⟨h.os, h.tape, h.output, by rw [heap_set_size]; exact h.size, fun j hj hn => by rw [heap_set_other (show j ≠ g by omega)]; exact h.block j hj hn⟩

/-- Five numbers, by value. -/
abbrev arr5 (a b c d e : Int) : Array Value := #[.int .u64 a, .int .u64 b, .int .u64 c, .int .u64 d, .int .u64 e]
abbrev tobj (T : List Int) : Obj := .cells ⟨T.map (Value.int .u64)⟩ 23
theorem tobj_cell {w : World} {g : Nat} {T : List Int} (h : w.heap[g]? = some (tobj T)) {j : Nat} {z : Int} (hz : T[j]? = some z) : w.cell? ⟨g, j, none⟩ = some (.int .u64 z) := by
  rw [cell_of h]; simp [hz]
theorem tobj_set {w : World} {g : Nat} {T : List Int} (h : w.heap[g]? = some (tobj T)) (j : Nat) (z : Int) : (w.setCell ⟨g, j, none⟩ (.int .u64 z)).heap[g]? = some (tobj (T.set j z)) := by
  rw [heap_set_same h]; simp [List.map_set]

theorem counts_nil (now : Int) (w : World) : Calls Try.prog 23 #[.pointer none, .int .u64 now] w fun r w' => r = .returned (.agg (arr5 0 0 0 0 0)) ∧ Below w.heap.size w w' := by
  go_enter Try.func23, Try.ntmps23
  go_wp2
  refine bodyPost_ret (v := .agg _) (by simp [results, Try.results23, go_sem]; rfl) rfl ⟨?_, ?_⟩
  · rfl
  · exact ((Below.refl _ _).alloc (Nat.le_refl _) _).alloc (by simp) _

/-- What a row of five cells holds behind j buckets (and the kinds below k one more). -/
def Upd5 (Z T : List Int) (j k : Nat) : Prop := T.length = 5 ∧ ∀ i, i < 5 → T[i]? = some (satS (sumN (fun q => Z.getD (5 * q + i) 0) (if i < k then j + 1 else j)))
theorem Upd5.step {Z T : List Int} {j k : Nat} (h : Upd5 Z T j k) (hk : k < 5) (hz : ∀ q, 0 ≤ Z.getD q 0) {x : Int} (hx : x = addS (satS (sumN (fun q => Z.getD (5 * q + k) 0) j)) (Z.getD (5 * j + k) 0)) : Upd5 Z (T.set k x) j (k + 1) := by
  refine ⟨by simp [h.1], fun i hi => ?_⟩
  by_cases he : i = k
  · subst he
    rw [List.getElem?_set_self (by rw [h.1]; exact hi), if_pos (by omega), hx, addS_satS (sumN_nonneg fun _ _ => hz _) (hz _)]
    rfl
  · rw [List.getElem?_set_ne (by omega), h.2 i hi]
    by_cases hik : i < k
    · rw [if_pos hik, if_pos (by omega)]
    · rw [if_neg hik, if_neg (by omega)]
theorem Upd5.next {Z T : List Int} {j : Nat} (h : Upd5 Z T j 5) : Upd5 Z T (j + 1) 0 := by
  refine ⟨h.1, fun i hi => ?_⟩
  rw [h.2 i hi, if_pos hi, if_neg (by omega)]

theorem Lay.cell {B t : Nat} {F : Cnt} {Z : List Int} (h : Lay B t F Z) (hB : 1 ≤ B) (hB8 : B ≤ 8) (q : Nat) : 0 ≤ Z.getD q 0 ∧ Z.getD q 0 ≤ 18446744073709551615 := by
  by_cases hq : q < 40
  · rw [List.getD_eq_getElem?_getD]
    have e : q = 5 * (q / 5) + q % 5 := by omega
    by_cases hx : ∃ q', q' ≤ t ∧ t < q' + B ∧ q' % B = q / 5
    · obtain ⟨q', h1, h2, h3⟩ := hx
      rw [e, ← h3, h.here q' (q % 5) h1 h2 (by omega)]
      exact h.bd _ _
    · rw [e, h.none (q / 5) (q % 5) (by omega) (by omega) (fun q' h1 h2 h3 => hx ⟨q', h1, h2, h3⟩)]
      simp
  · rw [List.getD_eq_getElem?_getD, List.getElem?_eq_none (by rw [h.len]; omega)]
    simp
theorem ext5 (Z : List Int) (j : Nat) (hl : Z.length = 40) (hj : j < 8) : (Array.mk (Z.map (Value.int .u64))).extract ((j : Int).toNat * 5) ((j : Int).toNat * 5 + 5) = arr5 (Z.getD (5 * j + 0) 0) (Z.getD (5 * j + 1) 0) (Z.getD (5 * j + 2) 0) (Z.getD (5 * j + 3) 0) (Z.getD (5 * j + 4) 0) := by
  rw [Int.toNat_natCast]
  apply Array.ext
  · simp [hl]; omega
  · intro i h1 h2
    have hi : i < 5 := h2
    have hg : ∀ q, q < 40 → Z[q]? = some (Z.getD q 0) := fun q hq => by rw [List.getD_eq_getElem?_getD, List.getElem?_eq_getElem (by omega)]; rfl
    have hat : ((Array.mk (Z.map (Value.int .u64))).extract (j * 5) (j * 5 + 5))[i]? = some (.int .u64 (Z.getD (5 * j + i) 0)) := by
      rw [Array.getElem?_extract_of_lt (by simp [hl]; omega)]
      have := hg (j * 5 + i) (by omega)
      rw [List.getElem?_eq_getElem (by omega)] at this
      injection this with this
      simp only [List.getElem_toArray, List.getElem_map, this]
      rw [Nat.mul_comm j 5]
    rw [Array.getElem?_eq_getElem h1] at hat
    injection hat with hat
    rw [hat]
    rcases (show i = 0 ∨ i = 1 ∨ i = 2 ∨ i = 3 ∨ i = 4 by omega) with rfl | rfl | rfl | rfl | rfl <;> rfl

set_option maxHeartbeats 2000000 in
theorem counts_win (b B W t now : Nat) (F : Cnt) (w : World) (h : Win w b B W t F) (hn : now ≤ 18446744073709551615) :
    Calls Try.prog 23 #[.pointer (some ⟨b, 0, none⟩), .int .u64 now] w fun r w' =>
      r = .returned (.agg (arr5 (satS (tot F (max (now / W) t) 0 B)) (satS (tot F (max (now / W) t) 1 B)) (satS (tot F (max (now / W) t) 2 B)) (satS (tot F (max (now / W) t) 3 B)) (satS (tot F (max (now / W) t) 4 B)))) ∧
      Frm (· = b) w w' ∧ Win w' b B W (max (now / W) t) F := by
  obtain ⟨g, hg⟩ : ∃ g, w.heap.size = g := ⟨_, rfl⟩
  obtain ⟨w2, hw2⟩ : ∃ w2, (w.alloc (.cells (arr5 0 0 0 0 0) 23)).alloc (.cells (arr5 0 0 0 0 0) 23) = w2 := ⟨_, rfl⟩
  have hbl : Below w.heap.size w w2 := by rw [← hw2]; exact ((Below.refl _ _).alloc (Nat.le_refl _) _).alloc (by simp) _
  have hbg : b < g := by rw [← hg]; exact h.lt
  have hgz : w2.heap.size = g + 1 + 1 := by rw [← hw2]; simp [hg]
  have hg0 : w2.heap[g]? = some (tobj [0, 0, 0, 0, 0]) := by
    rw [← hw2, ← hg]
    exact kb_alloc (heap_alloc_at w _) _
  have hg1 : w2.heap[g + 1]? = some (tobj [0, 0, 0, 0, 0]) := by
    rw [← hw2, ← hg]
    have := heap_alloc_at (w.alloc (.cells (arr5 0 0 0 0 0) 23)) (.cells (arr5 0 0 0 0 0) 23)
    simp only [World.alloc, Array.size_push] at this ⊢
    exact this
  have hr := reach_win b B W t now F w2 (h.below hbl) hn
  obtain ⟨t', ht'⟩ : ∃ t', max (now / W) t = t' := ⟨_, rfl⟩
  rw [ht'] at hr ⊢
  have HG := Lib.hid hg
  have HW2 := Lib.hid hw2
  have HBL := Lib.hid hbl
  have HG0 := Lib.hid hg0
  have HG1 := Lib.hid hg1
  clear ht' h hg hw2 hbl hg0 hg1
  go_enter Try.func23, Try.ntmps23
  go_wp2_with fail
  rw [HW2.out, HG.out]
  refine hr.mono ?_
  clear hr
  rintro r w1 ⟨rfl, hf, hw⟩
  obtain ⟨Z, hb, hl⟩ := hw.blk
  have hlen := hl.len
  obtain ⟨cs, hC⟩ : ∃ cs, Z.map (Value.int .u64) = cs := ⟨_, rfl⟩
  have hld : w1.rangeAt b 3 cs := fun j v hv => by
      rw [← hC] at hv
      simp only [List.getElem?_map, Option.map_eq_some_iff] at hv
      obtain ⟨z, hz, rfl⟩ := hv
      exact wobj_cell hb hz
  have hsz : (Try.prog.info? 61).map (·.size) = some cs.length := by rw [← hC, List.length_map, hlen]; kernel_rfl
  have hix : ∀ (j : Nat), j < 8 → ∀ w, (Instr.index 61 (.agg cs.toArray) (.int .i64 j)).run Try.prog w = .ok (.agg (arr5 (Z.getD (5 * j + 0) 0) (Z.getD (5 * j + 1) 0) (Z.getD (5 * j + 2) 0) (Z.getD (5 * j + 3) 0) (Z.getD (5 * j + 4) 0))) w := by
    intro j hj w
    rw [run_index_agg w 61 23 8 5 cs.toArray .i64 j (by kernel_rfl) (by kernel_rfl) (by kernel_rfl) (by omega) (by omega), ← hC]
    rw [show (Z.map (Value.int .u64)).toArray = Array.mk (Z.map (Value.int .u64)) from rfl, ext5 Z j hlen hj]
  have hzz : ∀ q, 0 ≤ Z.getD q 0 ∧ Z.getD q 0 ≤ 18446744073709551615 := hl.cell hw.B1 hw.B8
  have f2 : Frm (· = b) w w1 := (Frm.of_below (F := (· = b)) HBL.out).trans hf (fun _ _ h => h)
  have g0 : w1.heap[g]? = some (tobj [0, 0, 0, 0, 0]) := by rw [hf.block g (by omega) (by omega)]; exact HG0.out
  have g1 : w1.heap[g + 1]? = some (tobj [0, 0, 0, 0, 0]) := by rw [hf.block (g + 1) (by omega) (by omega)]; exact HG1.out
  have HZ := Lib.hid hzz
  have HLD := Lib.hid hld
  have HSZ := Lib.hid hsz
  have HIX := Lib.hid hix
  have HF := Lib.hid f2
  have HW := Lib.hid hw
  have HL := Lib.hid hl
  have K0 := Lib.hid g0
  have K1 := Lib.hid g1
  clear hf hw hb hl hlen hC hix hzz f2 g0 g1 hld hsz
  go_wp2_with (refine wpList_load_mid rfl 61 (.tmp 18) rfl b 3 rfl cs (.array 8 23) HLD.out (by kernel_rfl) rfl HSZ.out ?_)
  go_loopg [20] 8 (fun k v20 wr => ∃ (j : Nat) (T : List Int), j + k = 8 ∧ v20 = .int .i64 j ∧ wr.heap[g + 1]? = some (tobj T) ∧ Upd5 Z T j 0 ∧ wr.heap[g]? = some (tobj [0, 0, 0, 0, 0]) ∧ Win wr b B W t' F ∧ Frm (· = b) w wr)
  case atStart =>
    refine ⟨0, [0, 0, 0, 0, 0], rfl, rfl, K1.out, ⟨rfl, fun i hi => ?_⟩, K0.out, HW.out, HF.out⟩
    rw [if_neg (by omega)]
    rcases (show i = 0 ∨ i = 1 ∨ i = 2 ∨ i = 3 ∨ i = 4 by omega) with rfl | rfl | rfl | rfl | rfl <;> rfl
  case round =>
    obtain ⟨j, T, hj, rfl, k1, hu, k0, hw, hf⟩ := hrel
    have HJ := Lib.hid hj
    have HU := Lib.hid hu
    have K1' := Lib.hid k1
    have K0' := Lib.hid k0
    have HW' := Lib.hid hw
    have HF' := Lib.hid hf
    by_cases hlt : j < 8
    · have hlt' : (j : Int) < 8 := by omega
      have hix := HIX.out j hlt
      generalize hz0 : Z.getD (5 * j + 0) 0 = z0 at hix
      generalize hz1 : Z.getD (5 * j + 1) 0 = z1 at hix
      generalize hz2 : Z.getD (5 * j + 2) 0 = z2 at hix
      generalize hz3 : Z.getD (5 * j + 3) 0 = z3 at hix
      generalize hz4 : Z.getD (5 * j + 4) 0 = z4 at hix
      have hD : ∀ (k : Nat), k < 5 → ∀ w, (Instr.index 23 (.agg (arr5 z0 z1 z2 z3 z4)) (.int .i64 k)).run Try.prog w = .ok (.int .u64 (Z.getD (5 * j + k) 0)) w := by
        intro k hk w
        refine run_index_one w 23 22 5 _ .i64 k _ (by kernel_rfl) (by kernel_rfl) (by kernel_rfl) (by omega) (by omega) ?_
        rw [Int.toNat_natCast]
        rcases (show k = 0 ∨ k = 1 ∨ k = 2 ∨ k = 3 ∨ k = 4 by omega) with rfl | rfl | rfl | rfl | rfl
        · rw [hz0]; rfl
        · rw [hz1]; rfl
        · rw [hz2]; rfl
        · rw [hz3]; rfl
        · rw [hz4]; rfl
      have HD := Lib.hid hD
      clear hj hu k1 k0 hw hf hz0 hz1 hz2 hz3 hz4 hD
      go_wp2
      clear hix
      have hba := below_alloc wr (.cells (arr5 z0 z1 z2 z3 z4) 23)
      generalize wr.alloc (.cells (arr5 z0 z1 z2 z3 z4) 23) = wi at *
      have I1 := Lib.hid (kb_below K1'.out hba)
      have I0 := Lib.hid (kb_below K0'.out hba)
      have IW := Lib.hid (HW'.out.below hba)
      have IF := Lib.hid (HF'.out.then_below hba)
      clear hba
      go_loopg [24] 5 (fun kk v24 wr => ∃ (k : Nat) (T' : List Int), k + kk = 5 ∧ v24 = .int .i64 k ∧ wr.heap[g + 1]? = some (tobj T') ∧ Upd5 Z T' j k ∧ wr.heap[g]? = some (tobj [0, 0, 0, 0, 0]) ∧ Win wr b B W t' F ∧ Frm (· = b) w wr)
      case atStart => exact ⟨0, T, rfl, rfl, I1.out, HU.out, I0.out, IW.out, IF.out⟩
      case round =>
        obtain ⟨k, T', hk, rfl, k1, hu, k0, hw, hf⟩ := hrel
        have HK := Lib.hid hk
        have HU' := Lib.hid hu
        have R1 := Lib.hid k1
        have R0 := Lib.hid k0
        have RW := Lib.hid hw
        have RF := Lib.hid hf
        by_cases hkl : k < 5
        · have hkl' : (k : Int) < 5 := by omega
          have hik := HD.out k hkl
          dsimp only [arr5] at hik
          obtain ⟨x, hx⟩ : ∃ x, satS (sumN (fun q => Z.getD (5 * q + k) 0) j) = x := ⟨_, rfl⟩
          have hxb : 0 ≤ x ∧ x ≤ 18446744073709551615 := by rw [← hx]; exact satS_bd (sumN_nonneg fun _ _ => (HZ.out _).1)
          have hTx : T'[k]? = some x := by rw [hu.2 k hkl, if_neg (by omega), hx]
          have q0 := tobj_cell k1 hTx
          have f0 := frozen_of k1 k
          have hlt2 := heap_lt k1
          obtain ⟨z, hz⟩ : ∃ z, Z.getD (5 * j + k) 0 = z := ⟨_, rfl⟩
          have hzb := HZ.out (5 * j + k)
          rw [hz] at hik hzb
          have hst := hu.step (x := addS x z) hkl (fun q => (HZ.out q).1) (by rw [hx, hz])
          have HST := Lib.hid hst
          clear hk hu k1 k0 hw hf hx hTx hz hst
          go_wp2_with fail
          have hss := sum_two wr.heap.size 0 2 x z (wr.alloc (.cells #[.int .u64 x, .int .u64 z] 22)) hxb.1 hzb.1 hxb.2 hzb.2 (by rw [cell_of (heap_alloc_at wr _)]; rfl) (by rw [cell_of (heap_alloc_at wr _)]; rfl)
          refine hss.mono ?_
          clear hss
          rintro r w5 ⟨rfl, rfl⟩
          have hba := below_alloc wr (.cells #[.int .u64 x, .int .u64 z] 22)
          have p0 := cell_alloc q0 (.cells #[.int .u64 x, .int .u64 z] 22)
          have pk := kb_below R1.out hba
          have p1 := frozen_of pk k
          generalize wr.alloc (.cells #[.int .u64 x, .int .u64 z] 22) = w5 at *
          have S1 := Lib.hid (tobj_set pk k (addS x z))
          have S0 := Lib.hid ((heap_set_other (p := ⟨g + 1, k, none⟩) (k := g) (by simp) (.int .u64 (addS x z))).trans (kb_below R0.out hba))
          have SW := Lib.hid ((RW.out.below hba).keep (heap_set_other (p := ⟨g + 1, k, none⟩) (k := b) (by simp; omega) (.int .u64 (addS x z))))
          have SF := Lib.hid ((RF.out.then_below hba).new (g := g + 1) (by rw [HG.out]; omega) k (.int .u64 (addS x z)))
          generalize addS x z = y at *
          clear hba pk q0 f0 hik
          go_wp2
          go_roundg (5 - (k + 1))
          case measure => have := HK.out; omega
          case rel => exact ⟨k + 1, T'.set k y, by omega, by simp, S1.out, HST.out, S0.out, SW.out, SF.out⟩
        · have hkl' : ¬ (k : Int) < 5 := by omega
          clear hk hu k1 k0 hw hf
          go_wp2
          obtain rfl : k = 5 := by have := HK.out; omega
          go_roundg (8 - (j + 1))
          case measure => have := HJ.out; omega
          case rel => exact ⟨j + 1, T', by omega, by simp, R1.out, HU'.out.next, R0.out, RW.out, RF.out⟩
    · have hlt' : ¬ (j : Int) < 8 := by omega
      obtain rfl : j = 8 := by omega
      have hT : T = [satS (tot F t' 0 B), satS (tot F t' 1 B), satS (tot F t' 2 B), satS (tot F t' 3 B), satS (tot F t' 4 B)] := by
        have hw := HW'.out
        have hl := HL.out
        apply List.ext_getElem?
        intro i
        by_cases hi : i < 5
        · rw [hu.2 i hi, if_neg (by omega), hl.tot hw.B1 hw.B8 hi]
          rcases (show i = 0 ∨ i = 1 ∨ i = 2 ∨ i = 3 ∨ i = 4 by omega) with rfl | rfl | rfl | rfl | rfl <;> rfl
        · rw [List.getElem?_eq_none (by rw [hu.1]; omega), List.getElem?_eq_none (by simp; omega)]
      rw [hT] at k1
      generalize e0 : satS (tot F t' 0 B) = x0 at k1
      have E0 := Lib.hid e0
      generalize e1 : satS (tot F t' 1 B) = x1 at k1
      have E1 := Lib.hid e1
      generalize e2 : satS (tot F t' 2 B) = x2 at k1
      have E2 := Lib.hid e2
      generalize e3 : satS (tot F t' 3 B) = x3 at k1
      have E3 := Lib.hid e3
      generalize e4 : satS (tot F t' 4 B) = x4 at k1
      have E4 := Lib.hid e4
      have q0 := tobj_cell k1 (j := 0) rfl
      have q1 := tobj_cell k1 (j := 1) rfl
      have q2 := tobj_cell k1 (j := 2) rfl
      have q3 := tobj_cell k1 (j := 3) rfl
      have q4 := tobj_cell k1 (j := 4) rfl
      have p0 := tobj_cell k0 (j := 0) rfl
      have p1 := tobj_cell k0 (j := 1) rfl
      have p2 := tobj_cell k0 (j := 2) rfl
      have p3 := tobj_cell k0 (j := 3) rfl
      have p4 := tobj_cell k0 (j := 4) rfl
      have f0 := frozen_of k0 0
      have f1 := frozen_of k0 1
      have f2 := frozen_of k0 2
      have f3 := frozen_of k0 3
      have f4 := frozen_of k0 4
      clear hj hu k1 k0 hw hf hT e0 e1 e2 e3 e4
      go_wp2
      refine bodyPost_ret (v := .agg _) (by simp [results, Try.results23, go_sem, p0, p1, p2, p3, p4]; rfl) rfl ⟨?_, ?_, ?_⟩
      · rw [E0.out, E1.out, E2.out, E3.out, E4.out]
      · have hg : w.heap.size ≤ g := by rw [HG.out]; omega
        exact ((((HF'.out.new hg _ _).new hg _ _).new hg _ _).new hg _ _).new hg _ _
      · refine HW'.out.keep ?_
        rw [heap_set_other (by simp; omega), heap_set_other (by simp; omega), heap_set_other (by simp; omega), heap_set_other (by simp; omega), heap_set_other (by simp; omega)]

end Go.Proofs.Ytfncipoiblieeaa
