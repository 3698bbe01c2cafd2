/- Contract of porpoiseref03.Cancel. -/
import Derived.Test.YtgpebbopggmgbaaRefDue03
import Derived.OwnWalk
namespace Go.Proofs.Ytgpebbopggmgbaa
set_option linter.unusedVariables false
open Go.ChangeShapes Go.WideShapes Go.ChangeAt Go.RowKit

theorem one_info : (Try.prog.info? 75).map (fun i => (i.zero, i.size, i.bytes)) = some (some (.agg #[.int .i64 0, .int .i64 0, .int .u64 0]), 3, 24) := by kernel_rfl
theorem one_slice : Try.prog.underlying 29 = some (.slice 75) := by kernel_rfl

/-- A row of the call's own, read. -/
theorem own_rowE {w : World} {base n : Nat} {v : Value} {V : List Ent} (h : w.ownsRow base 75 3 v n (f3 V)) (hm : n ≤ maxLen) :
    ∃ A cap, v = .slice A n cap ∧ RowE w A n V ∧ n ≤ cap ∧ cap ≤ maxLen := by
  have hl := h.1
  rw [f3_length] at hl
  have hV : V.length = n := by omega
  rcases h.2 with ⟨rfl, rfl⟩ | ⟨g, cap, cur, rfl, _, hg, hnc, hcm, _, htake⟩
  · exact ⟨none, 0, rfl, ⟨hV, .inl rfl⟩, Nat.le_refl _, by decide⟩
  · refine ⟨_, cap, rfl, ⟨hV, ?_⟩, hnc, hcm⟩
    by_cases h0 : n = 0
    · exact .inl h0
    · refine .inr ⟨g, 0, cur, (0, 0), rfl, hg, fun j u hu => ?_⟩
      rw [← htake] at hu
      have hj : j < n * 3 := by
        have := (List.getElem?_eq_some_iff.1 hu).1
        rw [List.length_take] at this
        omega
      rw [List.getElem?_take_of_lt hj] at hu
      simpa using hu

/-- The cells of a part of a row. -/
theorem RowE.part {w : World} {A : Option Addr} {len cap : Nat} {l1 l2 : List Ent} (h : RowE w A len (l1 ++ l2)) (hl : 0 < len) : ∃ blk off, A = some ⟨blk, off, none⟩ ∧ blk < w.heap.size ∧ (∀ j u, (f3 l1)[j]? = some u → w.cell? ((⟨blk, off, none⟩ : Addr).add j) = some u) ∧
    ∀ j u, (f3 l2)[j]? = some u → w.cell? ((⟨blk, off + l1.length * 3, none⟩ : Addr).add j) = some u := by
  rcases h.2 with h0 | ⟨blk, off, cs, fz, rfl, hb, hc⟩
  · omega
  · have hadd : ∀ o j, (⟨blk, o, none⟩ : Addr).add j = ⟨blk, o + j, none⟩ := fun o j => by
      unfold Addr.add
      split
      · rename_i h; subst h; rfl
      · rfl
    refine ⟨blk, off, rfl, heap_lt hb, fun j u hu => ?_, fun j u hu => ?_⟩
    · rw [hadd, cell_of hb]
      refine hc j u ?_
      rw [f3_append, List.getElem?_append_left (List.getElem?_eq_some_iff.1 hu).1]
      exact hu
    · rw [hadd, cell_of hb, Nat.add_assoc]
      refine hc _ u ?_
      rw [f3_append, List.getElem?_append_right (by rw [f3_length]; omega), f3_length]
      rw [show l1.length * 3 + j - l1.length * 3 = j by omega]
      exact hu

theorem kept_set {w : World} {g : Nat} {cs : Array Value} {t : TypeId} {f : Nat × Nat} (hg : w.heap[g]? = some (.cells cs t f)) (ht : t ≠ 75) (o o' : Nat) (u u' : Value) : Kept w ((w.setCell ⟨g, o, none⟩ u).setCell ⟨g, o', none⟩ u') := by
  intro j cs' fz hj
  have hne : j ≠ g := by
    rintro rfl
    rw [hg] at hj
    injection hj with hj
    injection hj with _ hj
    exact ht hj
  rw [heap_set_other hne, heap_set_other hne]
  exact hj

set_option maxHeartbeats 2000000 in
theorem rcancel_any (A : Option Addr) (len cap : Nat) (nw k i : Int) (V : List Ent) (w : World) (hr : RowE w A len V) (hlen : len ≤ 1099511627776) (hc : len ≤ cap) (hcm : cap ≤ maxLen) (hwf : ∀ e ∈ V, wf64 e.k ∧ wf64 e.i) (hk : wf64 k) (hi : wf64 i) :
    Calls Try.prog 24 #[.agg #[.int .u64 nw, .slice A len cap], .agg #[.int .i64 k, .int .i64 i]] w fun r w' => Below w.heap.size w w' ∧
      ((∃ l1 e l2, V = l1 ++ e :: l2 ∧ e.k = k ∧ e.i = i ∧ ∃ A' len' cap', r = .returned (.tuple #[.agg #[.int .u64 nw, .slice A' len' cap'], .bool true]) ∧ RowE w' A' len' (l1 ++ l2) ∧ len' ≤ cap' ∧ cap' ≤ maxLen) ∨
       ((∀ e ∈ V, ¬ (e.k = k ∧ e.i = i)) ∧ r = .returned (.tuple #[.agg #[.int .u64 nw, .slice A len cap], .bool false]))) := by
  have hb3 : Below w.heap.size w (((w.alloc (xobj nw A len cap)).alloc (tobj k i)).alloc (xobj 0 none 0 0)) := (((Below.refl _ _).alloc (Nat.le_refl _) _).alloc (by simp) _).alloc (by simp; omega) _
  have hx := kb_alloc (kb_alloc (heap_alloc_at w (xobj nw A len cap)) (tobj k i)) (xobj 0 none 0 0)
  have hy := kb_alloc (heap_alloc_at (w.alloc (xobj nw A len cap)) (tobj k i)) (xobj 0 none 0 0)
  have hz := heap_alloc_at ((w.alloc (xobj nw A len cap)).alloc (tobj k i)) (xobj 0 none 0 0)
  rw [show (w.alloc (xobj nw A len cap)).heap.size = w.heap.size + 1 by simp] at hy
  rw [show ((w.alloc (xobj nw A len cap)).alloc (tobj k i)).heap.size = w.heap.size + 1 + 1 by simp] at hz
  have hr3 := hr.below hb3
  generalize hW : ((w.alloc (xobj nw A len cap)).alloc (tobj k i)).alloc (xobj 0 none 0 0) = w3 at *
  obtain ⟨x0, x1⟩ := xcells hx
  obtain ⟨y0, y1⟩ := cells2 hy
  have hat := at_any A len cap nw k i V w3 hr3 hlen hwf hk hi
  have HX := Lib.hid hx
  have HZ := Lib.hid hz
  have HB := Lib.hid hb3
  have HR := Lib.hid hr3
  clear hb3 hr hr3 hx hy hz
  go_enter Try.func24, Try.ntmps24
  go_wp2_with fail
  refine hat.mono ?_
  clear hat hW x0 x1 y0 y1
  rintro r w4 ⟨hb4, n, rfl, hn⟩
  have hx4 := kb_below HX.out hb4
  have hz4 := kb_below HZ.out hb4
  obtain ⟨x0, x1⟩ := xcells hx4
  obtain ⟨z0, z1⟩ := xcells hz4
  have fz0 := frozen_of hz4 0
  have fz1 := frozen_of hz4 1
  have HB4 := Lib.hid (HB.out.trans (hb4.mono HB.out.size))
  have hr4 := HR.out.below hb4
  rcases hn with ⟨rfl, hno⟩ | ⟨l1, e, l2, rfl, hek, hei, _, rfl⟩
  · have NO := Lib.hid hno
    clear hno hb4 hr4
    go_wp2
    refine bodyPost_ret (v := .tuple #[.agg #[.int .u64 nw, .slice A len cap], .bool false]) (by simp [results, Try.results24, go_sem, z0, z1]; done) rfl ?_
    exact ⟨(HB4.out.setCell (p := ⟨w.heap.size + 1 + 1, 0, none⟩) (by simp; omega) _).setCell (p := ⟨w.heap.size + 1 + 1, 1, none⟩) (by simp; omega) _, .inr ⟨NO.out, rfl⟩⟩
  · have hll : l1.length + 1 + l2.length = len := by have := hr4.1; simp at this; omega
    obtain ⟨blk, off, rfl, hblt, hp1, _⟩ := hr4.part (cap := cap) (l1 := l1) (l2 := e :: l2) (by omega)
    have hr4' := hr4
    rw [show l1 ++ e :: l2 = (l1 ++ [e]) ++ l2 by simp] at hr4'
    obtain ⟨blk', off', hA', _, _, hp2⟩ := hr4'.part (cap := cap) (l1 := l1 ++ [e]) (l2 := l2) (by omega)
    injection hA' with hA'
    injection hA' with h1 h2
    subst h1 h2
    rw [show (l1 ++ [e]).length = l1.length + 1 by simp] at hp2
    obtain ⟨i0, hi0, hz0, hz1, hz2⟩ := info_parts one_info
    have HE := Lib.hid (And.intro hek hei)
    have P1 := Lib.hid hp1
    have P2 := Lib.hid hp2
    unfold maxLen at hcm
    clear hp1 hp2 hr4' hek hei hwf hb4
    obtain ⟨p, hp⟩ : ∃ p, l1.length = p := ⟨_, rfl⟩
    obtain ⟨q, hq⟩ : ∃ q, l2.length = q := ⟨_, rfl⟩
    rw [hp] at hll P2 ⊢
    rw [hq] at hll
    have HP := Lib.hid hp
    have HQ := Lib.hid hq
    clear hp hq
    subst hll
    have hb5 : Below w4.heap.size w4 (w4.alloc (.cells #[] 75)) := below_alloc _ _
    have xb1 := cell_later hb5 x1
    obtain ⟨ad, had⟩ : ∃ ad : Addr, (if cap = p + 1 then (some ⟨blk, off, none⟩ : Option Addr) else some ⟨blk, off + (p + 1) * 3, none⟩) = some ad := by
      by_cases h : cap = p + 1
      · exact ⟨⟨blk, off, none⟩, by rw [if_pos h]⟩
      · exact ⟨⟨blk, off + (p + 1) * 3, none⟩, by rw [if_neg h]⟩
    have hp2 : ∀ j u, (f3 l2)[j]? = some u → w4.cell? (ad.add j) = some u := fun j u hu => by
      by_cases h : cap = p + 1
      · have hq0 : l2.length = 0 := by rw [HQ.out]; omega
        have hl2 : l2 = [] := List.eq_nil_of_length_eq_zero hq0
        rw [hl2] at hu
        cases hu
      · rw [if_neg h] at had
        injection had with had
        rw [← had]
        exact P2.out j u hu
    have P3 := Lib.hid hp2
    clear hp2
    go_wp2_with (first
      | (at_builtin
         refine wpList_append_own_at _ rfl (.tmp 14) (.tmp 18) _ rfl w4.heap.size 75 i0 _ 3 24 one_slice hi0 hz0 hz1 hz2 rfl (by omega) (.slice (some ⟨w4.heap.size, 0, none⟩) 0 0) 0 [] rfl
           (World.ownsRow_made w4 #[] 0 (Nat.le_refl _) (by decide) rfl) ⟨blk, off, none⟩ p _ (f3 l1) rfl (by rw [f3_length, HP.out]) (fun j u hu => cell_later hb5 (P1.out j u hu)) (f3_one l1) (by unfold maxLen; omega) (by omega) (by simp) ?_
         intro v5 w5 own5 gr5 nil5 loc5
         have hb6 : Below w4.heap.size w4 w5 := hb5.grown gr5 (by simp) (fun k hk => by simp [Value.ownBlock] at hk; omega)
         have xc0 := cell_later hb6 x0
         have xc1 := cell_later hb6 x1)
      | (at_builtin
         refine wpList_append_own_at _ rfl (.tmp 20) (.tmp 25) _ rfl w4.heap.size 75 i0 _ 3 24 one_slice hi0 hz0 hz1 hz2 rfl (by omega) v5 (0 + p) ([] ++ f3 l1) rfl
           own5 ad q _ (f3 l2) rfl (by rw [f3_length, HQ.out]) (fun j u hu => cell_later hb6 (P3.out j u hu)) (f3_one l2) (by unfold maxLen; omega) (by omega) hb6.size ?_
         intro v6 w6 own6 gr6 nil6 loc6
         have hb7 : Below w4.heap.size w4 w6 := hb6.grown gr6 hb6.size (fun k hk => (own5.lt k hk).1)
         have own6' : w6.ownsRow w4.heap.size 75 3 v6 (0 + p + q) (f3 (l1 ++ l2)) := by rw [f3_append]; exact own6
         obtain ⟨A6, c6, rfl, hr6, hc6, hc6'⟩ := own_rowE own6' (by unfold maxLen; omega)
         have xd0 := cell_later hb7 x0
         have zd0 := cell_later hb7 z0
         have zd1 := cell_later hb7 z1
         have fd0 := (hb7.frozen (p := ⟨w.heap.size + 1 + 1, 0, none⟩) (cell_lt z0)).trans fz0
         have fd1 := (hb7.frozen (p := ⟨w.heap.size + 1 + 1, 1, none⟩) (cell_lt z1)).trans fz1)
      | fail)
    have hz6 := kb_below hz4 hb7
    have hbel : Below w.heap.size w w6 := HB4.out.trans (hb7.mono HB4.out.size)
    have hkept : Kept w6 ((w6.setCell ⟨w.heap.size + 1 + 1, 0, none⟩ (.int .u64 nw)).setCell ⟨w.heap.size + 1 + 1, 1, none⟩ (.slice A6 (p + q) c6)) := kept_set hz6 (by decide) _ _ _ _
    refine bodyPost_ret (v := .tuple #[.agg #[.int .u64 nw, .slice A6 (p + q) c6], .bool true]) (by simp [results, Try.results24, go_sem, zd0, zd1]; done) rfl ?_
    rw [Nat.zero_add] at hr6 hc6
    exact ⟨(hbel.setCell (p := ⟨w.heap.size + 1 + 1, 0, none⟩) (by simp; omega) _).setCell (p := ⟨w.heap.size + 1 + 1, 1, none⟩) (by simp; omega) _, .inl ⟨l1, e, l2, rfl, HE.out.1, HE.out.2, A6, p + q, c6, rfl, hr6.keep hkept, hc6, hc6'⟩⟩

end Go.Proofs.Ytgpebbopggmgbaa
