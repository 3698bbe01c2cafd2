/- Contracts of porpoiseref07: Add, All. -/
import Derived.Test.YtpheifdneafkhaaRef07
import Derived.Test.YtpheifdneafkhaaRecs
import Derived.Test.YtpheifdneafkhaaRefLen
namespace Go.Proofs.Ytpheifdneafkhaa
set_option linter.unusedVariables false
open Go.ChangeShapes Go.WideShapes Go.ChangeAt Go.RowKit

/-- The document's notes: buckets and times. -/
def r2 : Rec (Int × Int) := rec2 .u64 .u64
abbrev oneT : TypeId := 65
abbrev OnesR (w : World) (base : Nat) (v : Value) (V : List (Int × Int)) : Prop := OwnR r2 w base 65 v V
/-- The document's hist, by value. -/
abbrev rhist (B W N : Int) (v : Value) : Array Value := #[.int .i64 B, .int .u64 W, .int .u64 N, v]
theorem ones_slice : Try.prog.underlying 47 = some (.slice 65) := by kernel_rfl
theorem ones_info : (Try.prog.info? 65).map (fun i => (i.zero, i.size, i.bytes)) = some (some (.agg #[.int .u64 0, .int .u64 0]), 2, 16) := by kernel_rfl

abbrev sobj (B W N : Int) (v : Value) : Obj := .cells (rhist B W N v) 49
theorem scells {w : World} {g : Nat} {B W N : Int} {v : Value} (h : w.heap[g]? = some (sobj B W N v)) : w.cell? ⟨g, 0, none⟩ = some (.int .i64 B) ∧ w.cell? ⟨g, 1, none⟩ = some (.int .u64 W) ∧ w.cell? ⟨g, 2, none⟩ = some (.int .u64 N) ∧ w.cell? ⟨g, 3, none⟩ = some v :=
  ⟨by rw [cell_of h]; rfl, by rw [cell_of h]; rfl, by rw [cell_of h]; rfl, by rw [cell_of h]; rfl⟩
theorem kb_set1 {w : World} {j : Nat} {o : Obj} (h : w.heap[j]? = some o) (b : Nat) (hb : j ≠ b) (vs : List Value) : (w.setCells b 0 vs).heap[j]? = some o := by
  rw [(frm_setCells (F := (· = b)) (b := b) rfl vs 0 w w (Frm.refl _ _)).block j (heap_lt h) hb]; exact h
theorem sobj_range {w : World} {g : Nat} {B W N : Int} {v : Value} (h : w.heap[g]? = some (sobj B W N v)) : w.rangeAt g 0 [.int .i64 B, .int .u64 W, .int .u64 N, v] := fun j u hu => by
  rw [Nat.zero_add, cell_of h]; simpa using hu
theorem sobj_there {w : World} {g : Nat} {B W N : Int} {v : Value} (h : w.heap[g]? = some (sobj B W N v)) : w.there g 0 4 := fun j hj => by
  rw [Nat.zero_add]
  refine ⟨?_, frozen_of h j⟩
  rw [cell_of h]
  match j, hj with
  | 0, _ => rfl
  | 1, _ => rfl
  | 2, _ => rfl
  | 3, _ => rfl
theorem sobj_puts {w : World} {g : Nat} {B W N B' W' N' : Int} {v v' : Value} (h : w.heap[g]? = some (sobj B W N v)) : (w.setCells g 0 [.int .i64 B', .int .u64 W', .int .u64 N', v']).heap[g]? = some (sobj B' W' N' v') :=
  heap_set_same (o := 3) (heap_set_same (o := 2) (heap_set_same (o := 1) (heap_set_same (o := 0) h _) _) _) _
theorem Frm.grown {F : Nat → Prop} {a w w' : World} {m : Option Nat} (h : Frm F a w) (hg : w.grownBy w' m) (hm : ∀ g, m = some g → F g ∨ a.heap.size ≤ g) : Frm F a w' :=
  ⟨hg.os.trans h.os, hg.tape.trans h.tape, hg.output.trans h.output, Nat.le_trans h.size hg.size, fun j hj hn => (hg.block j (Nat.lt_of_lt_of_le hj h.size) (fun e => by
    rcases hm j e.symm with h' | h'
    · exact hn h'
    · omega)).trans (h.block j hj hn)⟩
theorem kb_grown {w w' : World} {m : Option Nat} (hg : w.grownBy w' m) {j : Nat} {o : Obj} (h : w.heap[j]? = some o) (hm : m ≠ some j) : w'.heap[j]? = some o := (hg.block j (heap_lt h) (fun e => hm e.symm)).trans h

set_option maxRecDepth 100000 in
set_option maxHeartbeats 1000000 in
theorem radd07 (B W N now : Nat) (took : Int) (A : Option Addr) (n c : Nat) (V : List (Int × Int)) (w : World) (hr : RowR r2 w A n V) (hn : n ≤ 1000) (hW : 1 ≤ W) (hN : N ≤ 18446744073709551615) (hnow : now ≤ 18446744073709551615) (h0 : 0 ≤ took) (h1 : took ≤ 18446744073709551615) :
    Calls Try.prog 20 #[.agg (rhist B W N (.slice A n c)), .int .u64 now, .int .u64 took] w fun r w' => ∃ v, r = .returned (.agg (rhist B W ((max N now : Nat) : Int) v)) ∧ OnesR w' w.heap.size v (V ++ [(((max N now / W : Nat) : Int), took)]) ∧ Below w.heap.size w w' := by
  obtain ⟨M, hM⟩ : ∃ M, max N now = M := ⟨_, rfl⟩
  rw [hM]
  have hMb : M ≤ 18446744073709551615 := by omega
  have hmx : (if N < now then (now : Int) else (N : Int)) = (M : Int) := by rw [← hM]; split <;> omega
  obtain ⟨q, hq⟩ : ∃ q, M / W = q := ⟨_, rfl⟩
  have hqi : (M : Int) / (W : Int) = (q : Int) := by rw [← hq]; exact (Int.natCast_ediv M W).symm
  have hqb : q ≤ 18446744073709551615 := by rw [← hq]; exact Nat.le_trans (Nat.div_le_self _ _) hMb
  have hne : ((W : Int) == 0) = false := by simp; omega
  rw [hq]
  obtain ⟨s, hs⟩ : ∃ s, w.heap.size = s := ⟨_, rfl⟩
  have hV : V.length = n := hr.1
  obtain ⟨w4, hw4⟩ : ∃ w4, ((((w.alloc (Obj.cells (rhist B W N (.slice A n c)) 49)).alloc (Obj.cells #[.int .i64 0, .int .u64 0, .int .u64 0, .slice none 0 0] 49)).alloc (Obj.cells #[.int .i64 B, .int .u64 W, .int .u64 M, .slice A n c] 49)).alloc (Obj.cells #[] 65)) = w4 := ⟨_, rfl⟩
  have hbl : Below w.heap.size w w4 := by rw [← hw4]; exact ((((Below.refl _ _).alloc (Nat.le_refl _) _).alloc (by simp) _).alloc (by simp; omega) _).alloc (by simp; omega) _
  have hsz : w4.heap.size = s + 4 := by rw [← hw4, ← hs]; simp
  have k0 : w4.heap[s]? = some (sobj B W N (.slice A n c)) := by rw [← hw4, ← hs]; exact kb_alloc (kb_alloc (kb_alloc (heap_alloc_at w _) _) _) _
  have k1 : w4.heap[s + 1]? = some (sobj 0 0 0 (.slice none 0 0)) := by
    rw [← hw4, ← hs]
    refine kb_alloc (kb_alloc ?_ _) _
    have := heap_alloc_at (w.alloc (Obj.cells (rhist B W N (.slice A n c)) 49)) (sobj 0 0 0 (.slice none 0 0))
    simpa using this
  have k2 : w4.heap[s + 1 + 1]? = some (sobj B W M (.slice A n c)) := by
    rw [← hw4, ← hs]
    refine kb_alloc ?_ _
    have := heap_alloc_at ((w.alloc (Obj.cells (rhist B W N (.slice A n c)) 49)).alloc (sobj 0 0 0 (.slice none 0 0))) (sobj B W M (.slice A n c))
    simpa using this
  have own0 : OnesR w4 s (.slice (some ⟨s + 1 + 1 + 1, 0, none⟩) 0 0) [] := by
    rw [← hw4]
    have := OwnR.empty (R := r2) (base := s) (((w.alloc (Obj.cells (rhist B W N (.slice A n c)) 49)).alloc (sobj 0 0 0 (.slice none 0 0))).alloc (sobj B W M (.slice A n c))) 65 (by rw [← hs]; simp; omega)
    simpa [hs] using this
  have src0 := hr.later hbl
  have HW4 := Lib.hid hw4
  have HBL := Lib.hid hbl
  have HSZ := Lib.hid hsz
  have K0 := Lib.hid k0
  have K1 := Lib.hid k1
  have K2 := Lib.hid k2
  have OWN0 := Lib.hid own0
  have SRC0 := Lib.hid src0
  have HS := Lib.hid hs
  have HV := Lib.hid hV
  have HN := Lib.hid hn
  clear hM hw4 hbl hsz k0 k1 k2 own0 src0 hr hV hq hn
  obtain ⟨i0, hi0, hz0, hz1, hz2⟩ := info_parts ones_info
  go_enter Try.func20, Try.ntmps20
  rw [hs]
  go_wp2_with (first
    | (at_builtin; refine wpList_appR (P := Try.prog) (R := r2) (v := v1) rfl (.tmp 19) (.tmp 27) rfl ones_slice hi0 hz0 hz1 hz2 rfl (by decide) (base := s) rfl rfl (OWN1.out.alloc _) (RowR.one w5 ((q : Int), took) _ rfl) (by have := HN.out; have := HV.out; simp; omega) (by have := SZ5.out; simp; omega) ?_
       rintro v2 w7 own2 gr2 ob2
       obtain ⟨A2, n2, c2, rfl, row2, hl2, hnc2, hcm2⟩ := own2.row'
       have OWN2 := Lib.hid own2
       have GR2 := Lib.hid gr2
       have k71 := kb_grown gr2 (kb_alloc K51.out _) (by rcases OB1.out with e | e <;> rw [e] <;> simp [Value.ownBlock, HSZ.out] <;> (try omega))
       have k72 := kb_grown gr2 (kb_alloc K52.out _) (by rcases OB1.out with e | e <;> rw [e] <;> simp [Value.ownBlock, HSZ.out] <;> (try omega))
       obtain ⟨e0, e1, e2, e3⟩ := scells k72
       obtain ⟨g0, g1, g2, g3⟩ := scells k71
       have f1 := fun j => frozen_of k71 j
       have f2 := fun j => frozen_of k72 j
       have SZ7 : Hid (s + 4 ≤ w7.heap.size) := Lib.hid (by have := gr2.size; have := SZ5.out; simp at *; omega)
       have K71 := Lib.hid k71
       have K72 := Lib.hid k72
       clear own2 gr2 ob2 row2 k71 k72 c50 c51 c52 c53 d0 d1 d2 d3)
    | (at_builtin; rw [HW4.out]; refine wpList_appR (P := Try.prog) (R := r2) (v := .slice (some ⟨s + 1 + 1 + 1, 0, none⟩) 0 0) rfl (.tmp 15) (.tmp 17) rfl ones_slice hi0 hz0 hz1 hz2 rfl (by decide) (base := s) rfl rfl OWN0.out SRC0.out (by have := HN.out; simp; omega) (by have := HSZ.out; omega) ?_
       rintro v1 w5 own1 gr1 ob1
       have k50 := kb_grown gr1 K0.out (by simp [Value.ownBlock] <;> (try omega))
       have k51 := kb_grown gr1 K1.out (by simp [Value.ownBlock] <;> (try omega))
       have k52 := kb_grown gr1 K2.out (by simp [Value.ownBlock] <;> (try omega))
       obtain ⟨c50, c51, c52, c53⟩ := scells k50
       obtain ⟨d0, d1, d2, d3⟩ := scells k52
       have OWN1 := Lib.hid own1
       have GR1 := Lib.hid gr1
       have OB1 := Lib.hid ob1
       have SZ5 : Hid (s + 4 ≤ w5.heap.size) := Lib.hid (by have := gr1.size; rw [HSZ.out] at this; exact this)
       have K51 := Lib.hid k51
       have K52 := Lib.hid k52
       clear own1 gr1 ob1 k50 k51 k52))
  have hF : Frm (fun j => j = s + 1 ∨ j = s + 1 + 1) w7 (((((w7.setCell ⟨s + 1 + 1, 3, none⟩ (.slice A2 n2 c2)).setCell ⟨s + 1, 0, none⟩ (.int .i64 B)).setCell ⟨s + 1, 1, none⟩ (.int .u64 W)).setCell ⟨s + 1, 2, none⟩ (.int .u64 M)).setCell ⟨s + 1, 3, none⟩ (.slice A2 n2 c2)) :=
    (((((Frm.refl (fun j => j = s + 1 ∨ j = s + 1 + 1) w7).set (p := ⟨s + 1 + 1, 3, none⟩) (.inr rfl) _).set (p := ⟨s + 1, 0, none⟩) (.inl rfl) _).set (p := ⟨s + 1, 1, none⟩) (.inl rfl) _).set (p := ⟨s + 1, 2, none⟩) (.inl rfl) _).set (p := ⟨s + 1, 3, none⟩) (.inl rfl) _
  refine bodyPost_ret (v := .agg (rhist B W M (.slice A2 n2 c2))) (by simp [results, Try.results20, go_sem, g0, g1, g2, g3]) rfl ⟨.slice A2 n2 c2, rfl, ?_, ?_⟩
  · have := OWN2.out
    rw [List.nil_append] at this
    refine this.frm hF (fun j hj cs hcs => ?_)
    rcases hj with rfl | rfl
    · rw [K71.out] at hcs; injection hcs with hcs; injection hcs with _ hcs; exact absurd hcs (by decide)
    · rw [K72.out] at hcs; injection hcs with hcs; injection hcs with _ hcs; exact absurd hcs (by decide)
  · have hb4 := HBL.out
    rw [HS.out] at hb4
    have f5 : Frm (fun _ => False) w w5 := (Frm.of_below (F := fun _ => False) HBL.out).grown GR1.out (fun g hg => by simp [Value.ownBlock] at hg; rw [HS.out]; right; omega)
    have f7 : Frm (fun _ => False) w w7 := (f5.alloc _).grown GR2.out (fun g hg => by
      rcases OB1.out with e | e
      · rw [e] at hg; simp [Value.ownBlock] at hg; rw [HS.out]; right; omega
      · rw [e] at hg; injection hg with hg; have := HSZ.out; rw [HS.out]; right; omega)
    have fz := f7.trans hF (fun j hj h => by rw [HS.out] at hj; rcases h with h | h <;> omega)
    exact fz.below (by rw [HS.out]; exact Nat.le_refl _) (fun _ _ h => h)

/-- The document's notes as buckets and bins. -/
def lof (V : List (Int × Int)) : List (Nat × Nat) := V.map fun e => (e.1.toNat, (lenS e.2).toNat)
theorem lof_len (V : List (Int × Int)) : (lof V).length = V.length := by simp [lof]
theorem cntL_snoc (K : List Nat) {k : Nat} (hk : k < 65) : cntL (K ++ [k]) = (cntL K).set k (((K.count k : Nat) : Int) + 1) := by
  apply List.ext_getElem?
  intro i
  by_cases hi : i < 65
  · rw [cntL_at _ hi, List.count_append]
    by_cases he : i = k
    · subst he
      rw [List.getElem?_set_self (by rw [cntL_len]; exact hi)]
      simp
    · have hki : (k == i) = false := by simp; omega
      rw [List.getElem?_set_ne (by omega), cntL_at _ hi, List.count_singleton, hki]
      simp
  · rw [List.getElem?_eq_none (by rw [cntL_len]; omega), List.getElem?_eq_none (by rw [List.length_set, cntL_len]; omega)]
theorem told_snoc (q B : Nat) (V : List (Int × Int)) (i : Nat) {x y : Int} (h : V[i]? = some (x, y)) (hx : x.toNat ≤ q) : told q B (lof (V.take (i + 1))) = told q B (lof (V.take i)) ++ if q - x.toNat < B then [(lenS y).toNat] else [] := by
  obtain ⟨hlt, he⟩ := List.getElem?_eq_some_iff.1 h
  rw [List.take_succ_eq_append_getElem hlt, he]
  unfold lof
  rw [List.map_append, told_append]
  congr 1
  by_cases hc : q - x.toNat < B
  · have h1 : decide (x.toNat ≤ q ∧ q < x.toNat + B) = true := by rw [decide_eq_true_eq]; omega
    rw [if_pos hc]; simp only [told, List.map_cons, List.map_nil, List.filter_cons, List.filter_nil, h1, if_true]
  · have h1 : decide (x.toNat ≤ q ∧ q < x.toNat + B) = false := by rw [decide_eq_false_iff_not]; omega
    rw [if_neg hc]; simp only [told, List.map_cons, List.map_nil, List.filter_cons, List.filter_nil, h1, Bool.false_eq_true, if_false]
theorem RowR.pair {w : World} {A : Option Addr} {n : Nat} {V : List (Int × Int)} (h : RowR r2 w A n V) {i : Nat} (hi : i < n) : ∃ b off x y, A = some ⟨b, off, none⟩ ∧ V[i]? = some (x, y) ∧ w.cell? ⟨b, off + i * 2, none⟩ = some (.int .u64 x) ∧ w.cell? ⟨b, off + i * 2 + 1, none⟩ = some (.int .u64 y) := by
  obtain ⟨b, off, a, hA, hV, _, hc⟩ := h.at_ hi
  exact ⟨b, off, a.1, a.2, hA, hV, hc 0 _ rfl, hc 1 _ rfl⟩

set_option maxRecDepth 100000 in
set_option maxHeartbeats 2000000 in
theorem rall07 (B W N now q : Nat) (A : Option Addr) (n c : Nat) (V : List (Int × Int)) (w : World) (hr : RowR r2 w A n V) (hn : n ≤ 1000) (hB : B ≤ 8) (hW : 1 ≤ W) (hN : N ≤ 18446744073709551615) (hnow : now ≤ 18446744073709551615) (hq : max N now / W = q)
    (hV : ∀ e ∈ V, (0 ≤ e.1 ∧ e.1 ≤ (q : Int)) ∧ 0 ≤ e.2 ∧ e.2 ≤ 18446744073709551615) :
    Calls Try.prog 21 #[.agg (rhist B W N (.slice A n c)), .int .u64 now] w fun r w' => r = .returned (.tuple #[.agg (rhist B W ((max N now : Nat) : Int) (.slice A n c)), .agg (arrU (cntL (told q B (lof V))))]) ∧ Below w.heap.size w w' := by
  obtain ⟨M, hM⟩ : ∃ M, max N now = M := ⟨_, rfl⟩
  rw [hM] at hq ⊢
  have hMb : M ≤ 18446744073709551615 := by omega
  have hmx : (if N < now then (now : Int) else (N : Int)) = (M : Int) := by rw [← hM]; split <;> omega
  have hqi : (M : Int) / (W : Int) = (q : Int) := by rw [← hq]; exact (Int.natCast_ediv M W).symm
  have hqb : q ≤ 18446744073709551615 := by rw [← hq]; exact Nat.le_trans (Nat.div_le_self _ _) hMb
  have hne : ((W : Int) == 0) = false := by simp; omega
  obtain ⟨s, hs⟩ : ∃ s, w.heap.size = s := ⟨_, rfl⟩
  obtain ⟨w2, hw2⟩ : ∃ w2, ((w.alloc (Obj.cells (rhist B W N (.slice A n c)) 49)).alloc (Obj.cells #[.int .i64 0, .int .u64 0, .int .u64 0, .slice none 0 0] 49)) = w2 := ⟨_, rfl⟩
  have hbl : Below w.heap.size w w2 := by rw [← hw2]; exact ((Below.refl _ _).alloc (Nat.le_refl _) _).alloc (by simp) _
  have hsz : w2.heap.size = s + 1 + 1 := by rw [← hw2, ← hs]; simp
  have k0 : w2.heap[s]? = some (sobj B W N (.slice A n c)) := by rw [← hw2, ← hs]; exact kb_alloc (heap_alloc_at w _) _
  have k1 : w2.heap[s + 1]? = some (sobj 0 0 0 (.slice none 0 0)) := by
    rw [← hw2, ← hs]
    have := heap_alloc_at (w.alloc (Obj.cells (rhist B W N (.slice A n c)) 49)) (sobj 0 0 0 (.slice none 0 0))
    simpa using this
  have HW2 := Lib.hid hw2
  have HBL := Lib.hid hbl
  have HSZ := Lib.hid hsz
  have K0 := Lib.hid k0
  have K1 := Lib.hid k1
  have HS := Lib.hid hs
  have HR := Lib.hid hr
  have HV := Lib.hid hV
  have HN := Lib.hid hn
  clear hM hw2 hbl hsz k0 k1 hr hV hq hn
  have hz65 := zero65
  go_enter Try.func21, Try.ntmps21
  rw [hs]
  go_wp2_with (first
    | (refine wpList_store_arr rfl 42 (.tmp 7) (.tmp 16) rfl (s + 1 + 1 + 1 + 1) z65 z65 rfl rfl K5.out rfl (size65 z65_len) ?_
       rintro w6 K6 F6 S6
       have k60 : w6.heap[s]? = some (sobj B W N (.slice A n c)) := by rw [F6.block s (heap_lt K50.out) (by omega)]; exact K50.out
       have k63 : w6.heap[s + 1 + 1 + 1]? = some (sobj B W M (.slice A n c)) := by rw [F6.block (s + 1 + 1 + 1) (heap_lt K53.out) (by omega)]; exact K53.out
       obtain ⟨c0, c1, c2, c3⟩ := scells k60
       obtain ⟨d0, d1, d2, d3⟩ := scells k63)
    | (refine wpList_alloc_arr rfl 42 rfl (s + 1 + 1 + 1 + 1) (by simp [S3]) z65 (alloc65 _) ?_
       rintro w5 k5 B5 S5
       have K5 := Lib.hid k5
       have K50 := Lib.hid (kb_below (kb_alloc K30.out _) (B5.mono (by simp [S3])))
       have K53 := Lib.hid (kb_below (show (w3.alloc (sobj B W M (.slice A n c))).heap[s + 1 + 1 + 1]? = _ by have := heap_alloc_at w3 (sobj B W M (.slice A n c)); rwa [S3] at this) (B5.mono (by simp [S3])))
       have K51 := Lib.hid (kb_below (kb_alloc K31.out _) (B5.mono (by simp [S3])))
       have K52 := Lib.hid (kb_below (kb_alloc K3.out _) (B5.mono (by simp [S3])))
       have B50 : Hid (Below s w w5) := Lib.hid ((B30.out.alloc (by rw [S3]; omega) _).trans (B5.mono (by omega)))
       clear k5 c0 c1 c2 c3)
    | (rw [HW2.out]; refine wpList_alloc_arr rfl 42 rfl (s + 1 + 1) HSZ.out z65 (alloc65 _) ?_
       rintro w3 k3 B3 S3
       have B3' : Below w2.heap.size w2 w3 := by rw [HSZ.out]; exact B3
       have K3 := Lib.hid k3
       have K30 := Lib.hid (kb_below K0.out B3')
       have K31 := Lib.hid (kb_below K1.out B3')
       have B30 : Hid (Below s w w3) := Lib.hid (by have := HBL.out; rw [HS.out] at this; exact this.trans (B3.mono (by omega)))
       obtain ⟨c0, c1, c2, c3⟩ := scells K30.out
       clear k3 B3'))
  have K6' := Lib.hid K6
  have K60 := Lib.hid k60
  have K63 := Lib.hid k63
  have K61 : Hid (w6.heap[s + 1]? = some (sobj 0 0 0 (.slice none 0 0))) := Lib.hid (by rw [F6.block (s + 1) (heap_lt K51.out) (by omega)]; exact K51.out)
  have K62 : Hid (w6.heap[s + 1 + 1]? = some (aobj 42 z65)) := Lib.hid (by rw [F6.block (s + 1 + 1) (heap_lt K52.out) (by omega)]; exact K52.out)
  have B60 : Hid (Below s w w6) := Lib.hid (B50.out.trans (F6.below (by have := heap_lt K50.out; omega) (fun j hj e => by omega)))
  clear K6 F6 S6 k60 k63 c0 c1 c2 c3 d0 d1 d2 d3 B5 S5 B3 S3 K5 K50 K51 K52 K53 K3 K30 K31 B30 B50 hz65
  go_loopg [9] n (fun kk v9 wr => ∃ i : Nat, i + kk = n ∧ v9 = .int .i64 i ∧ wr.heap[s + 1 + 1 + 1 + 1]? = some (aobj 42 (cntL (told q B (lof (V.take i))))) ∧ Frm (· = s + 1 + 1 + 1 + 1) w6 wr)
  case atStart => exact ⟨0, by omega, rfl, by rw [show told q B (lof (V.take 0)) = [] from rfl, cntL_none]; exact K6'.out, Frm.refl _ _⟩
  case round =>
    obtain ⟨i, hi, rfl, hk, hf⟩ := hrel
    have HI := Lib.hid hi
    have hn := HN.out
    have KK := Lib.hid hk
    have HF := Lib.hid hf
    have kb0 : wr.heap[s]? = some (sobj B W N (.slice A n c)) := by rw [hf.block s (heap_lt K60.out) (by omega)]; exact K60.out
    have hbw : Below s w wr := B60.out.trans (hf.below (by have := heap_lt K60.out; omega) (fun j hj e => by omega))
    have HBW := Lib.hid hbw
    by_cases hlt : i < n
    · have hlt' : (i : Int) < n := by omega
      have hrw : RowR r2 wr A n V := HR.out.later (by rw [HS.out]; exact hbw)
      obtain ⟨blk, off, x, y, rfl, hxy, q0, q1⟩ := hrw.pair hlt
      obtain ⟨⟨x0, x1⟩, y0, y1⟩ := HV.out (x, y) (List.mem_of_getElem? hxy)
      simp only at x0 x1 y0 y1
      obtain ⟨k, hlk⟩ : ∃ k : Nat, lenS y = k := ⟨(lenS y).toNat, by have := lenS_bd y0 y1; omega⟩
      have hk64 : k < 65 := by have := lenS_bd y0 y1; omega
      have hts := told_snoc q B V i hxy (by omega)
      rw [hlk, Int.toNat_natCast] at hts
      obtain ⟨d, hd⟩ : ∃ d : Nat, q - x.toNat = d := ⟨_, rfl⟩
      rw [hd] at hts
      have hwd1 : IntKind.u64.wrap ((q : Int) - x) = (d : Int) := by rw [IntKind.wrap_u64]; omega
      have hwB : IntKind.u64.wrap (B : Int) = (B : Int) := by rw [IntKind.wrap_u64]; omega
      have hcn : (told q B (lof (V.take i))).count k ≤ 1000 := Nat.le_trans List.count_le_length (Nat.le_trans (told_len _ _ _) (by rw [lof_len, List.length_take]; omega))
      have hsn := cntL_snoc (told q B (lof (V.take i))) hk64
      have hat := cntL_at (told q B (lof (V.take i))) hk64
      generalize told q B (lof (V.take i)) = K at *
      generalize hwd : wr.drew = wd
      have hbd : wd.heap[s]? = some (sobj B W N (.slice (some ⟨blk, off, none⟩) n c)) := by rw [← hwd]; exact kb0
      have hkd : wd.heap[s + 1 + 1 + 1 + 1]? = some (aobj 42 (cntL K)) := by rw [← hwd]; exact hk
      have q0' : wd.cell? ⟨blk, off + i * 2, none⟩ = some (.int .u64 x) := by rw [← hwd]; exact q0
      have q1' : wd.cell? ⟨blk, off + i * 2 + 1, none⟩ = some (.int .u64 y) := by rw [← hwd]; exact q1
      obtain ⟨c0, c1, c2, c3⟩ := scells hbd
      obtain ⟨e0, e1, e2, e3⟩ := scells kb0
      have cc := aobj_cell hkd hat
      have cf := aobj_frozen hkd k
      have hFd : Frm (· = s + 1 + 1 + 1 + 1) w6 wd := by rw [← hwd]; exact hf.ali (drew_ali _)
      have HKD := Lib.hid hkd
      have HFD := Lib.hid hFd
      have HSN := Lib.hid hsn
      have HTS := Lib.hid hts
      have HLK := Lib.hid hlk
      have HWD := Lib.hid hwd
      generalize K.count k = cn at *
      have hdx : ((q : Int) - x) = (d : Int) := by omega
      clear hi hk hf kb0 hbw hrw hxy hts hlk hd hsn hat hwd hbd hkd hFd q0 q1
      by_cases hdB : d < B
      · have hdB' : (d : Int) < (B : Int) := by omega
        go_wp2
        refine region_tail 11 (by kernel_rfl) (by kernel_rfl) ?_
        simp only [List.take_succ_cons, List.take_zero, List.drop_succ_cons, List.drop_zero]
        rw [HWD.out]
        repeat still_step
        refine wpStill_nil ?_
        go_wp2_with (go_at_call 29; refine (rlen_any y _ y0 y1).mono ?_; rintro e w8 ⟨rfl, rfl⟩; rw [HLK.out])
        go_roundg (n - (i + 1))
        case measure => have := HI.out; omega
        case rel =>
          refine ⟨i + 1, by omega, by simp, ?_, HFD.out.set (p := ⟨s + 1 + 1 + 1 + 1, k, none⟩) rfl _⟩
          rw [HTS.out, if_pos hdB, HSN.out]
          exact aobj_set HKD.out k _
      · have hdB' : ¬ (d : Int) < (B : Int) := by omega
        go_wp2
        refine region_tail 11 (by kernel_rfl) (by kernel_rfl) ?_
        simp only [List.take_succ_cons, List.take_zero, List.drop_succ_cons, List.drop_zero]
        rw [HWD.out]
        repeat still_step
        refine wpStill_nil ?_
        go_wp2
        go_roundg (n - (i + 1))
        case measure => have := HI.out; omega
        case rel =>
          refine ⟨i + 1, by omega, by simp, ?_, HFD.out⟩
          rw [HTS.out, if_neg hdB, List.append_nil]
          exact HKD.out
    · have hlt' : ¬ (i : Int) < n := by omega
      obtain ⟨e0, e1, e2, e3⟩ := scells kb0
      have hni : i = n := by have := HI.out; omega
      have htk : V.take i = V := List.take_of_length_le (by rw [HR.out.1]; omega)
      rw [htk] at hk
      have hCl : (cntL (told q B (lof V))).length = 65 := cntL_len _
      generalize hC : cntL (told q B (lof V)) = C at hk hCl
      have HC := Lib.hid hC
      have kb1 : wr.heap[s + 1]? = some (sobj 0 0 0 (.slice none 0 0)) := by rw [hf.block (s + 1) (heap_lt K61.out) (by omega)]; exact K61.out
      have kb2 : wr.heap[s + 1 + 1]? = some (aobj 42 z65) := by rw [hf.block (s + 1 + 1) (heap_lt K62.out) (by omega)]; exact K62.out
      have kb3 : wr.heap[s + 1 + 1 + 1]? = some (sobj B W M (.slice A n c)) := by rw [hf.block (s + 1 + 1 + 1) (heap_lt K63.out) (by omega)]; exact K63.out
      clear hi hf kb0 hbw hni htk hC
      go_wp2
      refine wp_region_held (S := fun v => v.heap[s + 1 + 1 + 1]? = some (sobj B W M (.slice A n c)) ∧ v.heap[s + 1 + 1 + 1 + 1]? = some (aobj 42 C)) (by kernel_rfl) ?_
      change wpAnyH _ _ _ _ _ _ _ _ (World.drew _)
      generalize hwd : wr.drew = wd
      have k1 : wd.heap[s + 1]? = some (sobj 0 0 0 (.slice none 0 0)) := by rw [← hwd]; exact kb1
      have k2 : wd.heap[s + 1 + 1]? = some (aobj 42 z65) := by rw [← hwd]; exact kb2
      have k3 : wd.heap[s + 1 + 1 + 1]? = some (sobj B W M (.slice A n c)) := by rw [← hwd]; exact kb3
      have k4 : wd.heap[s + 1 + 1 + 1 + 1]? = some (aobj 42 C) := by rw [← hwd]; exact hk
      have hbd : Below s w wd := by rw [← hwd]; exact below_ali HBW.out (drew_ali _)
      clear hk kb1 kb2 kb3 hwd
      refine wpAnyH_take (i := 0) (v := .agg (rhist B W M (.slice A n c))) rfl (by kernel_rfl) (by kernel_rfl) (by kernel_rfl) (fun _ _ _ h => h) (yieldsIf_load_mid (by rfl) 49 (.tmp 6) rfl (s + 1 + 1 + 1) 0 rfl [.int .i64 B, .int .u64 W, .int .u64 M, .slice A n c] _ (fun v hv => sobj_range hv.1) Try.underlying49 rfl (by kernel_rfl)) ⟨k3, k4⟩ ?_
      refine wpAnyH_take (i := 1) (v := .agg (arrU C)) rfl (by kernel_rfl) (by kernel_rfl) (by kernel_rfl) (fun _ _ _ h => h) (yieldsIf_load_mid (by rfl) 42 (.tmp 7) rfl (s + 1 + 1 + 1 + 1) 0 rfl (C.map (Value.int .u64)) _ (fun v hv => aobj_range hv.2) und65 rfl (by rw [List.length_map]; exact size65 hCl)) ⟨k3, k4⟩ ?_
      have j2 := kb_set1 k2 (s + 1) (by omega) [.int .i64 B, .int .u64 W, .int .u64 M, .slice A n c]
      have j3 := kb_set1 k3 (s + 1) (by omega) [.int .i64 B, .int .u64 W, .int .u64 M, .slice A n c]
      have j4 := kb_set1 k4 (s + 1) (by omega) [.int .i64 B, .int .u64 W, .int .u64 M, .slice A n c]
      have j1 := sobj_puts (B' := B) (W' := W) (N' := M) (v' := .slice A n c) k1
      have jb : Below s w (wd.setCells (s + 1) 0 [.int .i64 B, .int .u64 W, .int .u64 M, .slice A n c]) := hbd.trans ((frm_setCells (F := (· = s + 1)) (b := s + 1) rfl _ _ _ _ (Frm.refl _ wd)).below (by have := heap_lt k1; omega) (fun j hj e => by omega))
      refine wpAnyH_one (i := 2) (by kernel_rfl) rfl rfl ?_
      refine wp_store_mid 49 (.tmp 4) (.tmp 52) rfl (s + 1) 0 (rhist B W M (.slice A n c)) rfl rfl (sobj_there k1) (by kernel_rfl) (by simp [Value.oneCell']) ⟨⟨j3, j4⟩, ?_⟩
      refine wpAnyH_one (i := 3) (by kernel_rfl) rfl rfl ?_
      have l1 := kb_set1 j1 (s + 1 + 1) (by omega) (C.map (Value.int .u64))
      have l2 := aobj_puts (Z' := C) j2 (by rw [z65_len, hCl])
      have l3 := kb_set1 j3 (s + 1 + 1) (by omega) (C.map (Value.int .u64))
      have l4 := kb_set1 j4 (s + 1 + 1) (by omega) (C.map (Value.int .u64))
      have lb := jb.trans ((frm_setCells (F := (· = s + 1 + 1)) (b := s + 1 + 1) rfl (C.map (Value.int .u64)) 0 _ _ (Frm.refl _ _)).below (by have := heap_lt j1; omega) (fun j hj e => by omega))
      refine wp_store_mid 42 (.tmp 5) (.tmp 53) rfl (s + 1 + 1) 0 (arrU C) rfl rfl (by rw [arrU_size, hCl, ← z65_len]; exact aobj_there j2) (by rw [arrU_size]; exact size65 hCl) (arrU_one _) ⟨⟨l3, l4⟩, ?_⟩
      refine wpAnyH_done (by kernel_rfl) ?_ _
      have hl1 := run_loadVar_mid (P := Try.prog) _ (s + 1) 0 49 [.int .i64 B, .int .u64 W, .int .u64 M, .slice A n c] _ (sobj_range l1) Try.underlying49 rfl (by kernel_rfl)
      have hl2 := run_load_arr (P := Try.prog) _ 42 (s + 1 + 1) 65 22 C l2 und65 (size65 hCl)
      have HL1 := Lib.hid hl1
      have HL2 := Lib.hid hl2
      have LB := Lib.hid lb
      clear l1 l2 l3 l4 lb j1 j2 j3 j4 jb hl1 hl2 k1 k2 k3 k4 hbd e0 e1 e2 e3
      rw [← arrU_list] at HL1 HL2 LB
      generalize (World.setCells _ _ _ (arrU C).toList) = wz at *
      go_wp2
      refine bodyPost_ret (v := .tuple #[.agg (rhist B W M (.slice A n c)), .agg (arrU C)]) (results_cell2 Try.results21 rfl HL1.out rfl HL2.out) rfl ⟨by rw [HC.out], LB.out⟩
end Go.Proofs.Ytpheifdneafkhaa
