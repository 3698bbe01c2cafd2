/- Contract of porpoiseref03.Put. -/
import Derived.Test.YtgpebbopggmgbaaRefCan03
namespace Go.Proofs.Ytgpebbopggmgbaa
set_option linter.unusedVariables false
open Go.ChangeShapes Go.WideShapes Go.ChangeAt Go.RowKit

theorem ins_pass {e : Ent} : ∀ {l1 l2 : List Ent}, (∀ x ∈ l1, ¬ e.d < x.d) → ins e (l1 ++ l2) = l1 ++ ins e l2
  | [], _, _ => rfl
  | x :: xs, l2, h => by
    have hu : ins e (x :: (xs ++ l2)) = if e.d < x.d then e :: x :: (xs ++ l2) else x :: ins e (xs ++ l2) := rfl
    rw [List.cons_append, hu, if_neg (h x (by simp)), ins_pass (fun y hy => h y (by simp [hy]))]
    rfl
theorem ins_here {e x : Ent} {l : List Ent} (h : e.d < x.d) : ins e (x :: l) = e :: x :: l := by
  have hu : ins e (x :: l) = if e.d < x.d then e :: x :: l else x :: ins e l := rfl
  rw [hu, if_pos h]
/-- What stands in the new list behind the first ones. -/
def Sofar (e : Ent) (l1 l2 X : List Ent) (done : Bool) : Prop := (done = false ∧ X = l1 ∧ ∀ x ∈ l1, ¬ e.d < x.d) ∨ (done = true ∧ ins e (l1 ++ l2) = X ++ l2)
theorem sofar_length {e : Ent} {l1 l2 X : List Ent} {d : Bool} (h : Sofar e l1 l2 X d) : X.length ≤ l1.length + 1 := by
  rcases h with ⟨_, rfl, _⟩ | ⟨_, h⟩
  · omega
  · have := congrArg List.length h
    rw [length_ins, List.length_append, List.length_append] at this
    omega
theorem sofar_done {e x : Ent} {l1 l2 X : List Ent} (h : Sofar e l1 (x :: l2) X true) : Sofar e (l1 ++ [x]) l2 (X ++ [x]) true := by
  rcases h with ⟨h, _⟩ | ⟨_, h⟩
  · cases h
  · exact .inr ⟨rfl, by simpa using h⟩
theorem sofar_now {e x : Ent} {l1 l2 X : List Ent} (h : Sofar e l1 (x :: l2) X false) (hlt : e.d < x.d) : Sofar e (l1 ++ [x]) l2 (X ++ [e] ++ [x]) true := by
  rcases h with ⟨_, rfl, h⟩ | ⟨h, _⟩
  · refine .inr ⟨rfl, ?_⟩
    rw [List.append_assoc, List.singleton_append, ins_pass h, ins_here hlt]
    simp
  · cases h
theorem sofar_not {e x : Ent} {l1 l2 X : List Ent} (h : Sofar e l1 (x :: l2) X false) (hlt : ¬ e.d < x.d) : Sofar e (l1 ++ [x]) l2 (X ++ [x]) false := by
  rcases h with ⟨_, rfl, h⟩ | ⟨h, _⟩
  · refine .inl ⟨rfl, rfl, fun y hy => ?_⟩
    rcases List.mem_append.1 hy with hy | hy
    · exact h y hy
    · obtain rfl : y = x := by simpa using hy
      exact hlt
  · cases h
theorem sofar_end {e : Ent} {l1 X : List Ent} (h : Sofar e l1 [] X true) : X = ins e l1 := by
  rcases h with ⟨h, _⟩ | ⟨_, h⟩
  · cases h
  · simpa using h.symm
theorem sofar_end' {e : Ent} {l1 X : List Ent} (h : Sofar e l1 [] X false) : X ++ [e] = ins e l1 := by
  rcases h with ⟨_, rfl, h⟩ | ⟨h, _⟩
  · have := ins_pass (l2 := []) h
    rw [List.append_nil] at this
    rw [this]; rfl
  · cases h

abbrev oobj (e : Ent) : Obj := .cells #[.int .i64 e.k, .int .i64 e.i, .int .u64 e.d] 75
theorem oobj_cells (w : World) (e : Ent) : ∀ j u, (f3 [e])[j]? = some u → (w.alloc (oobj e)).cell? ((⟨w.heap.size, 0, none⟩ : Addr).add j) = some u := by
  intro j u hu
  have hadd : (⟨w.heap.size, 0, none⟩ : Addr).add j = ⟨w.heap.size, j, none⟩ := by
    unfold Addr.add
    split
    · rename_i h; subst h; rfl
    · simp
  rw [hadd, cell_of (heap_alloc_at w (oobj e))]
  simpa [f3, c3] using hu
/-- A row of the call's own, with one timer more. -/
theorem own_more {w : World} {base n : Nat} {v : Value} {X : List Ent} {e : Ent} (h : w.ownsRow base 75 3 v (n + 1) (f3 X ++ f3 [e])) : w.ownsRow base 75 3 v (n + 1) (f3 (X ++ [e])) := by
  rw [f3_append]; exact h

set_option maxHeartbeats 4000000 in
theorem rput_any (A : Option Addr) (len cap : Nat) (nw k i due : Int) (V : List Ent) (w : World) (hr : RowE w A len V) (hlen : len ≤ 1000000) (hwf : ∀ e ∈ V, wf64 e.k ∧ wf64 e.i) (hk : wf64 k) (hi : wf64 i) (hn0 : 0 ≤ nw) (hn1 : nw ≤ 18446744073709551615) (hd0 : 0 ≤ due) (hd1 : due ≤ 18446744073709551615) (g : Nat) :
    Calls Try.prog 23 #[.agg #[.int .u64 nw, .slice A len cap], .agg #[.int .i64 k, .int .i64 i], .int .u64 due] w fun r w' => Below w.heap.size w w' ∧
      ((∃ e ∈ V, e.k = k ∧ e.i = i ∧ r = .returned (.tuple #[.agg #[.int .u64 nw, .slice A len cap], .int .i64 4])) ∨
       ((∀ e ∈ V, ¬ (e.k = k ∧ e.i = i)) ∧ ∃ A' len' cap', r = .returned (.tuple #[.agg #[.int .u64 nw, .slice A' len' cap'], .int .i64 0]) ∧ RowE w' A' len' (ins ⟨g, k, i, if due < nw then nw else due⟩ V) ∧ len' ≤ cap' ∧ cap' ≤ maxLen)) := by
  obtain ⟨v, hv⟩ : ∃ v, (if due < nw then nw else due) = v := ⟨_, rfl⟩
  rw [hv]
  have hb3 : Below w.heap.size w (((w.alloc (xobj nw A len cap)).alloc (tobj k i)).alloc (xobj 0 none 0 0)) := (((Below.refl _ _).alloc (Nat.le_refl _) _).alloc (by simp) _).alloc (by simp; omega) _
  have hx := kb_alloc (kb_alloc (heap_alloc_at w (xobj nw A len cap)) (tobj k i)) (xobj 0 none 0 0)
  have hy := kb_alloc (heap_alloc_at (w.alloc (xobj nw A len cap)) (tobj k i)) (xobj 0 none 0 0)
  have hz := heap_alloc_at ((w.alloc (xobj nw A len cap)).alloc (tobj k i)) (xobj 0 none 0 0)
  rw [show (w.alloc (xobj nw A len cap)).heap.size = w.heap.size + 1 by simp] at hy
  rw [show ((w.alloc (xobj nw A len cap)).alloc (tobj k i)).heap.size = w.heap.size + 1 + 1 by simp] at hz
  have hr3 := hr.below hb3
  generalize hW : ((w.alloc (xobj nw A len cap)).alloc (tobj k i)).alloc (xobj 0 none 0 0) = w3 at *
  obtain ⟨x0, x1⟩ := xcells hx
  obtain ⟨y0, y1⟩ := cells2 hy
  have hat := at_any A len cap nw k i V w3 hr3 (by omega) hwf hk hi
  have HX := Lib.hid hx
  have HY := Lib.hid hy
  have HZ := Lib.hid hz
  have HB := Lib.hid hb3
  have HR := Lib.hid hr3
  clear hb3 hr hr3 hx hy hz
  go_enter Try.func23, Try.ntmps23
  go_wp2_with fail
  refine hat.mono ?_
  clear hat hW x0 x1 y0 y1
  rintro r w4 ⟨hb4, n, rfl, hn⟩
  have hx4 := kb_below HX.out hb4
  have hy4 := kb_below HY.out hb4
  have hz4 := kb_below HZ.out hb4
  obtain ⟨x0, x1⟩ := xcells hx4
  obtain ⟨y0, y1⟩ := cells2 hy4
  obtain ⟨z0, z1⟩ := xcells hz4
  have fz0 := frozen_of hz4 0
  have fz1 := frozen_of hz4 1
  have HB4 := Lib.hid (HB.out.trans (hb4.mono HB.out.size))
  have hr4 := HR.out.below hb4
  rcases hn with ⟨rfl, hno⟩ | ⟨l1, e, l2, rfl, hek, hei, _, rfl⟩
  · have NO := Lib.hid hno
    have HR4 := Lib.hid hr4
    have hVl := hr4.1
    clear hno hb4 hr4 hwf
    obtain ⟨i0, hi0, hz0, hz1, hz2⟩ := info_parts one_info
    go_wp2
    go_loopg [8, 9, 10] len (fun gk v8 v9 v10 wr => ∃ (l1 l2 X : List Ent) (dn : Bool), V = l1 ++ l2 ∧ l2.length = gk ∧ v9 = .bool dn ∧ v10 = .int .i64 l1.length ∧ Sofar ⟨g, k, i, v⟩ l1 l2 X dn ∧ wr.ownsRow w4.heap.size 75 3 v8 X.length (f3 X) ∧ Below w4.heap.size w4 wr)
    case atStart => exact ⟨[], V, [], false, rfl, hVl, rfl, rfl, .inl ⟨rfl, rfl, by simp⟩, World.ownsRow_nil _ _ _ _, Below.refl _ _⟩
    case round =>
      obtain ⟨l1, l2, X, dn, hV, hgk, rfl, rfl, hso, hown, hbl⟩ := hrel
      have hXl := sofar_length hso
      have hll : l1.length + l2.length = len := by rw [← hVl, hV, List.length_append]
      have SO := Lib.hid hso
      have GK := Lib.hid hgk
      have HV := Lib.hid hV
      clear hso hgk hV
      have xr1 := cell_later hbl x1
      have yr0 := cell_later hbl y0
      have yr1 := cell_later hbl y1
      cases l2 with
      | nil =>
        have hjl : ¬ (l1.length : Int) < len := by simp at hll; omega
        have hVe : V = l1 := by have := HV.out; simpa using this
        have HVE := Lib.hid hVe
        clear hVe
        cases dn with
        | true =>
          obtain ⟨A6, c6, hv6, hr6, hc6, hc6'⟩ := own_rowE hown (by unfold maxLen; omega)
          subst hv6
          have xd0 := cell_later hbl x0
          have zd0 := cell_later hbl z0
          have zd1 := cell_later hbl z1
          have fd0 := (hbl.frozen (p := ⟨w.heap.size + 1 + 1, 0, none⟩) (cell_lt z0)).trans fz0
          have fd1 := (hbl.frozen (p := ⟨w.heap.size + 1 + 1, 1, none⟩) (cell_lt z1)).trans fz1
          have hz6 := kb_below hz4 hbl
          have hbel : Below w.heap.size w wr := HB4.out.trans (hbl.mono HB4.out.size)
          have hkept := Lib.hid (kept_set hz6 (by decide) 0 1 (.int .u64 nw) (.slice A6 X.length c6))
          have R6 := Lib.hid hr6
          clear hr6 hz6
          go_wp2
          refine bodyPost_ret (v := .tuple #[.agg #[.int .u64 nw, .slice A6 X.length c6], .int .i64 0]) (by simp [results, Try.results23, go_sem, zd0, zd1]; done) rfl ?_
          refine ⟨(hbel.setCell (p := ⟨w.heap.size + 1 + 1, 0, none⟩) (by simp; omega) _).setCell (p := ⟨w.heap.size + 1 + 1, 1, none⟩) (by simp; omega) _, .inr ⟨fun e he h1 h2 => NO.out e he ⟨h1, h2⟩, A6, X.length, c6, rfl, ?_, hc6, hc6'⟩⟩
          rw [HVE.out, ← sofar_end SO.out]
          exact R6.out.keep hkept.out
        | false =>
          go_wp2_with (first
            | (at_builtin; refine wpList_append_own_at _ rfl (.tmp 55) (.tmp 59) _ rfl w4.heap.size 75 i0 _ 3 24 one_slice hi0 hz0 hz1 hz2 rfl (by omega) u8 X.length (f3 X) rfl (hown.alloc _) ⟨wr.heap.size, 0, none⟩ 1 1 (f3 [⟨g, k, i, v⟩]) rfl (by rw [f3_length]; rfl) (oobj_cells wr ⟨g, k, i, v⟩) (f3_one [⟨g, k, i, v⟩]) (by unfold maxLen; omega) (by omega) (by have := hbl.size; simp; omega) ?_; intro v5 w5 own5 gr5 nl5 lo5; replace own5 := own_more own5; have hb5 : Below w4.heap.size w4 w5 := (hbl.alloc hbl.size (oobj ⟨g, k, i, v⟩)).grown gr5 (by have := hbl.size; simp; omega) (fun k hk => (hown.lt k hk).1); obtain ⟨A6, c6, hv6, hr6, hc6, hc6'⟩ := own_rowE own5 (by unfold maxLen; omega); subst hv6; have xd0 := cell_later hb5 x0; have zd0 := cell_later hb5 z0; have zd1 := cell_later hb5 z1; have fd0 := (hb5.frozen (p := ⟨w.heap.size + 1 + 1, 0, none⟩) (cell_lt z0)).trans fz0; have fd1 := (hb5.frozen (p := ⟨w.heap.size + 1 + 1, 1, none⟩) (cell_lt z1)).trans fz1)
            | fail)
          have hz6 := kb_below hz4 hb5
          have hbel : Below w.heap.size w w5 := HB4.out.trans (hb5.mono HB4.out.size)
          have hkept := kept_set hz6 (by decide) 0 1 (.int .u64 nw) (.slice A6 (X.length + 1) c6)
          refine bodyPost_ret (v := .tuple #[.agg #[.int .u64 nw, .slice A6 (X.length + 1) c6], .int .i64 0]) (by simp [results, Try.results23, go_sem, zd0, zd1]; done) rfl ?_
          refine ⟨(hbel.setCell (p := ⟨w.heap.size + 1 + 1, 0, none⟩) (by simp; omega) _).setCell (p := ⟨w.heap.size + 1 + 1, 1, none⟩) (by simp; omega) _, .inr ⟨fun e he h1 h2 => NO.out e he ⟨h1, h2⟩, A6, X.length + 1, c6, rfl, ?_, hc6, hc6'⟩⟩
          rw [HVE.out, ← sofar_end' SO.out]
          exact hr6.keep hkept
      | cons x l2 =>
        have hjn : l1.length < len := by simp at hll; omega
        have hjl : (l1.length : Int) < len := by omega
        have hj0 : (0 : Int) ≤ (l1.length : Int) := by omega
        obtain ⟨blk, off, x', hA, hVx, q0, q1, q2⟩ := HR4.out.at_ hjn
        obtain rfl : x = x' := by rw [HV.out] at hVx; simpa using hVx
        subst hA
        have r0 := cell_later hbl q0
        have r1 := cell_later hbl q1
        have r2 := cell_later hbl q2
        clear hVx
        have hres : ∀ (X' : List Ent) (dn' : Bool) (v6 : Value) (w6 : World), Sofar ⟨g, k, i, v⟩ (l1 ++ [x]) l2 X' dn' → w6.ownsRow w4.heap.size 75 3 v6 X'.length (f3 X') → Below w4.heap.size w4 w6 →
            ∃ (l1_1 l2_1 X_1 : List Ent) (dn : Bool), V = l1_1 ++ l2_1 ∧ l2_1.length = l2.length ∧ Value.bool dn' = .bool dn ∧ Value.int .i64 ((l1.length : Int) + 1) = .int .i64 l1_1.length ∧ Sofar ⟨g, k, i, v⟩ l1_1 l2_1 X_1 dn ∧ w6.ownsRow w4.heap.size 75 3 v6 X_1.length (f3 X_1) ∧ Below w4.heap.size w4 w6 := fun X' dn' v6 w6 h1 h2 h3 =>
          ⟨l1 ++ [x], l2, X', dn', by rw [HV.out]; simp, rfl, rfl, by simp, h1, h2, h3⟩
        have RES := Lib.hid hres
        clear hres
        cases dn with
        | true =>
          go_wp2_with (first
            | (at_builtin; refine wpList_append_own_at _ rfl (.tmp 45) (.tmp 51) _ rfl w4.heap.size 75 i0 _ 3 24 one_slice hi0 hz0 hz1 hz2 rfl (by omega) u8 X.length (f3 X) rfl (hown.alloc _) ⟨wr.heap.size, 0, none⟩ 1 1 (f3 [x]) rfl (by rw [f3_length]; rfl) (oobj_cells wr x) (f3_one [x]) (by unfold maxLen; omega) (by omega) (by have := hbl.size; simp; omega) ?_; intro v6 w6 own6 gr6 nl6 lo6; replace own6 := own_more own6; have hb6 : Below w4.heap.size w4 w6 := (hbl.alloc hbl.size (oobj x)).grown gr6 (by have := hbl.size; simp; omega) (fun k hk => (hown.lt k hk).1))
            | fail)
          go_roundg l2.length
          case measure => have := GK.out; simp at this; omega
          case rel => exact RES.out (X ++ [x]) true v6 w6 (sofar_done SO.out) (by simpa using own6) hb6
        | false =>
          by_cases hlt : v < x.d
          · go_wp2_with (first
              | (at_builtin; refine wpList_append_own_at _ rfl (.tmp 39) (.tmp 43) _ rfl w4.heap.size 75 i0 _ 3 24 one_slice hi0 hz0 hz1 hz2 rfl (by omega) u8 X.length (f3 X) rfl (hown.alloc _) ⟨wr.heap.size, 0, none⟩ 1 1 (f3 [⟨g, k, i, v⟩]) rfl (by rw [f3_length]; rfl) (oobj_cells wr ⟨g, k, i, v⟩) (f3_one [⟨g, k, i, v⟩]) (by unfold maxLen; omega) (by omega) (by have := hbl.size; simp; omega) ?_; intro v5 w5 own5 gr5 nl5 lo5; replace own5 := own_more own5; have hb5 : Below w4.heap.size w4 w5 := (hbl.alloc hbl.size (oobj ⟨g, k, i, v⟩)).grown gr5 (by have := hbl.size; simp; omega) (fun k hk => (hown.lt k hk).1); have x5 := cell_later hb5 x1; have p0 := cell_later hb5 q0; have p1 := cell_later hb5 q1; have p2 := cell_later hb5 q2)
              | (at_builtin; refine wpList_append_own_at _ rfl (.tmp 45) (.tmp 51) _ rfl w4.heap.size 75 i0 _ 3 24 one_slice hi0 hz0 hz1 hz2 rfl (by omega) v5 (X.length + 1) (f3 (X ++ [⟨g, k, i, v⟩])) rfl (own5.alloc _) ⟨w5.heap.size, 0, none⟩ 1 1 (f3 [x]) rfl (by rw [f3_length]; rfl) (oobj_cells w5 x) (f3_one [x]) (by unfold maxLen; omega) (by omega) (by have := hb5.size; simp; omega) ?_; intro v6 w6 own6 gr6 nl6 lo6; replace own6 := own_more own6; have hb6 : Below w4.heap.size w4 w6 := (hb5.alloc hb5.size (oobj x)).grown gr6 (by have := hb5.size; simp; omega) (fun k hk => (own5.lt k hk).1))
              | fail)
            go_roundg l2.length
            case measure => have := GK.out; simp at this; omega
            case rel => exact RES.out (X ++ [⟨g, k, i, v⟩] ++ [x]) true v6 w6 (sofar_now SO.out hlt) (by simpa using own6) hb6
          · go_wp2_with (first
              | (at_builtin; refine wpList_append_own_at _ rfl (.tmp 45) (.tmp 51) _ rfl w4.heap.size 75 i0 _ 3 24 one_slice hi0 hz0 hz1 hz2 rfl (by omega) u8 X.length (f3 X) rfl (hown.alloc _) ⟨wr.heap.size, 0, none⟩ 1 1 (f3 [x]) rfl (by rw [f3_length]; rfl) (oobj_cells wr x) (f3_one [x]) (by unfold maxLen; omega) (by omega) (by have := hbl.size; simp; omega) ?_; intro v6 w6 own6 gr6 nl6 lo6; replace own6 := own_more own6; have hb6 : Below w4.heap.size w4 w6 := (hbl.alloc hbl.size (oobj x)).grown gr6 (by have := hbl.size; simp; omega) (fun k hk => (hown.lt k hk).1))
              | fail)
            go_roundg l2.length
            case measure => have := GK.out; simp at this; omega
            case rel => exact RES.out (X ++ [x]) false v6 w6 (sofar_not SO.out (by show ¬ v < x.d; omega)) (by simpa using own6) hb6
  · have HE := Lib.hid (And.intro hek hei)
    clear hb4 hr4 hek hei hwf
    have hl0 : (0 : Int) ≤ (l1.length : Int) := by omega
    go_wp2
    refine bodyPost_ret (v := .tuple #[.agg #[.int .u64 nw, .slice A len cap], .int .i64 4]) (by simp [results, Try.results23, go_sem, z0, z1]; done) rfl ?_
    exact ⟨(HB4.out.setCell (p := ⟨w.heap.size + 1 + 1, 0, none⟩) (by simp; omega) _).setCell (p := ⟨w.heap.size + 1 + 1, 1, none⟩) (by simp; omega) _, .inl ⟨e, by simp, HE.out.1, HE.out.2, rfl⟩⟩

end Go.Proofs.Ytgpebbopggmgbaa
