/- Contract of porpoiselaw03's do: a deed, of a wheel and of the document's. -/
import Derived.Test.YtgpebbopggmgbaaRefPut03
namespace Go.Proofs.Ytgpebbopggmgbaa
set_option linter.unusedVariables false
open Go.ChangeShapes Go.WideShapes Go.ChangeAt Go.RowKit

/-- A wheel, and the document's, with the same timers. -/
structure Sync (w0 w : World) (b m : Nat) (now : Int) (L : List Ent) (A : Option Addr) (len cap : Nat) : Prop where
  own : Own w0 w b m now L
  row : RowE w A len L
  c1 : len ≤ cap
  c2 : cap ≤ maxLen
section
variable {w0 w w' : World} {b m : Nat} {now now' : Int} {L L' : List Ent} {A A' : Option Addr} {len cap len' cap' : Nat}
theorem Sync.below (h : Sync w0 w b m now L A len cap) (hb : Below w.heap.size w w') : Sync w0 w' b m now L A len cap := ⟨h.own.below hb, h.row.below hb, h.c1, h.c2⟩
theorem Sync.ali (h : Sync w0 w b m now L A len cap) (ha : Ali w w') : Sync w0 w' b m now L A len cap := ⟨h.own.ali ha, h.row.ali ha, h.c1, h.c2⟩
theorem Sync.drew (h : Sync w0 w b m now L A len cap) : Sync w0 w.drew b m now L A len cap := h.ali ⟨rfl, rfl, rfl, rfl⟩
theorem Sync.alloc (h : Sync w0 w b m now L A len cap) (o : Obj) : Sync w0 (w.alloc o) b m now L A len cap := h.below (below_alloc w o)
theorem Sync.set (h : Sync w0 w b m now L A len cap) {g : Nat} {cs : Array Value} {t : TypeId} {f : Nat × Nat} (hg : w.heap[g]? = some (.cells cs t f)) (h1 : t ≠ 64) (h2 : t ≠ 72) (h3 : t ≠ 75) (hlow : w0.heap.size ≤ g) (o o' : Nat) (u u' : Value) :
    Sync w0 ((w.setCell ⟨g, o, none⟩ u).setCell ⟨g, o', none⟩ u') b m now L A len cap := by
  have hnf := h.own.whl.not_foot hg h1 h2
  refine ⟨⟨h.own.whl.keep fun j hj => ?_, (h.own.low.setCell (p := ⟨g, o, none⟩) hlow u).setCell (p := ⟨g, o', none⟩) hlow u', h.own.foot⟩, h.row.keep (kept_set hg h3 o o' u u'), h.c1, h.c2⟩
  have hne : j ≠ g := fun hc => hnf (hc ▸ hj)
  rw [heap_set_other hne, heap_set_other hne]
end
theorem drew_ali (w : World) : Ali w w.drew := ⟨rfl, rfl, rfl, rfl⟩
theorem Frm.fresh {F : Nat → Prop} {a w : World} (h : Frm F a w) {g : Nat} (hg : a.heap.size ≤ g) (o o' : Nat) (u u' : Value) : Frm F a ((w.setCell ⟨g, o, none⟩ u).setCell ⟨g, o', none⟩ u') :=
  ⟨h.os, h.tape, h.output, by rw [heap_set_size, heap_set_size]; exact h.size, fun j hj hn => by rw [heap_set_other (show j ≠ g by omega), heap_set_other (show j ≠ g by omega)]; exact h.block j hj hn⟩
theorem Frm.then_below {F : Nat → Prop} {a w w' : World} (h : Frm F a w) (hb : Below w.heap.size w w') : Frm F a w' := h.trans (Frm.of_below (F := F) hb) (fun _ _ h => h)
theorem set_keep {w : World} {g j : Nat} (h : j ≠ g) (o o' : Nat) (u u' : Value) : ((w.setCell ⟨g, o, none⟩ u).setCell ⟨g, o', none⟩ u').heap[j]? = w.heap[j]? := by rw [heap_set_other h, heap_set_other h]

abbrev dobj (kd k i T : Int) : Obj := .cells #[.int .i64 kd, .int .i64 k, .int .i64 i, .int .u64 T] 35
theorem dcells {w : World} {j : Nat} {kd k i T : Int} (h : w.heap[j]? = some (dobj kd k i T)) : w.cell? ⟨j, 0, none⟩ = some (.int .i64 kd) ∧ w.cell? ⟨j, 1, none⟩ = some (.int .i64 k) ∧ w.cell? ⟨j, 2, none⟩ = some (.int .i64 i) ∧ w.cell? ⟨j, 3, none⟩ = some (.int .u64 T) :=
  ⟨by rw [cell_of h]; rfl, by rw [cell_of h]; rfl, by rw [cell_of h]; rfl, by rw [cell_of h]; rfl⟩
/-- The variables of a deed. -/
structure Vars (w : World) (N : Nat) (now : Int) (A : Option Addr) (len cap : Nat) (kd k i T : Int) : Prop where
  x : w.heap[N]? = some (xobj now A len cap)
  d : w.heap[N + 1]? = some (dobj kd k i T)
  z : w.heap[N + 1 + 1]? = some (xobj 0 none 0 0)
theorem Vars.below {w w' : World} {N : Nat} {now : Int} {A : Option Addr} {len cap : Nat} {kd k i T : Int} (h : Vars w N now A len cap kd k i T) (hb : Below w.heap.size w w') : Vars w' N now A len cap kd k i T := ⟨kb_below h.x hb, kb_below h.d hb, kb_below h.z hb⟩
theorem Vars.whl {w w' : World} {N : Nat} {now now' : Int} {A : Option Addr} {len cap : Nat} {kd k i T : Int} (h : Vars w N now A len cap kd k i T) {b m : Nat} {L : List Ent} (hw : Whl w b m now' L) (hf : Frm (Foot b m L) w w') : Vars w' N now A len cap kd k i T :=
  ⟨hw.other hf h.x (by decide) (by decide), hw.other hf h.d (by decide) (by decide), hw.other hf h.z (by decide) (by decide)⟩
/-- What a deed does to the time and the timers. -/
def Moved (kd now : Int) (L : List Ent) (now' : Int) (L' : List Ent) : Prop := now ≤ now' ∧ L'.length ≤ L.length + 1 ∧ (kd = 3 → L' = L ∨ ∃ e, L = e :: L' ∧ now' = e.d)

set_option maxHeartbeats 8000000 in
theorem do_any (w0 : World) (b m : Nat) (now kd k i T : Int) (L : List Ent) (A : Option Addr) (len cap : Nat) (w : World) (h : Sync w0 w b m now L A len cap) (hlen : L.length ≤ 1000) (hk : wf64 k) (hi : wf64 i) (hT : 0 ≤ T) (hT' : T ≤ 18446744073709551615) :
    Calls Try.prog 11 #[.pointer (some ⟨b, 0, none⟩), .agg #[.int .u64 now, .slice A len cap], .agg #[.int .i64 kd, .int .i64 k, .int .i64 i, .int .u64 T]] w fun r w' =>
      ∃ now' A' len' cap', r = .returned (.tuple #[.agg #[.int .u64 now', .slice A' len' cap'], .bool true]) ∧ ∃ L', Sync w0 w' b m now' L' A' len' cap' ∧ Moved kd now L now' L' ∧ Frm (Foot b m L) w w' := by
  have hlow := h.own.low.size
  have hrl := h.row.1
  have hnow := h.own.whl.now0
  have hb3 : Below w.heap.size w (((w.alloc (xobj now A len cap)).alloc (dobj kd k i T)).alloc (xobj 0 none 0 0)) := (((Below.refl _ _).alloc (Nat.le_refl _) _).alloc (by simp) _).alloc (by simp; omega) _
  have hx := kb_alloc (kb_alloc (heap_alloc_at w (xobj now A len cap)) (dobj kd k i T)) (xobj 0 none 0 0)
  have hy := kb_alloc (heap_alloc_at (w.alloc (xobj now A len cap)) (dobj kd k i T)) (xobj 0 none 0 0)
  have hz := heap_alloc_at ((w.alloc (xobj now A len cap)).alloc (dobj kd k i T)) (xobj 0 none 0 0)
  rw [show (w.alloc (xobj now A len cap)).heap.size = w.heap.size + 1 by simp] at hy
  rw [show ((w.alloc (xobj now A len cap)).alloc (dobj kd k i T)).heap.size = w.heap.size + 1 + 1 by simp] at hz
  have hs3 := h.below hb3
  have hf3 : Frm (Foot b m L) w _ := Frm.of_below hb3
  generalize hW : ((w.alloc (xobj now A len cap)).alloc (dobj kd k i T)).alloc (xobj 0 none 0 0) = w3 at *
  have hv3 : Vars w3 w.heap.size now A len cap kd k i T := ⟨hx, hy, hz⟩
  obtain ⟨d0, d1, d2, d3⟩ := dcells hy
  have hno := now_whl b m now L
  obtain ⟨f, hf⟩ : ∃ f, IntKind.u64.wrap (now + T) = f := ⟨_, rfl⟩
  have hfb : 0 ≤ f ∧ f ≤ 18446744073709551615 := by rw [← hf, IntKind.wrap_u64]; omega
  have hwn : ∀ n, Whl (w3.drewN n) b m now L := fun n => hs3.own.whl.ali ⟨rfl, rfl, rfl, rfl⟩
  have S3 := Lib.hid hs3
  have V3 := Lib.hid hv3
  have WN := Lib.hid hwn
  have F3 := Lib.hid hf3
  clear hx hy hz hs3 hv3 hwn hb3 h hf3
  go_enter Try.func11, Try.ntmps11
  go_wp2
  go_quiet (first | (go_at_call 17; exact (hno _ (WN.out _)).mono (fun _ _ hh => ⟨hh.1, _, hh.2.symm⟩)))
  have S4 := Lib.hid (S3.out.ali (w' := w3.drewN nq) ⟨rfl, rfl, rfl, rfl⟩)
  have F4 := Lib.hid (F3.out.ali (c := w3.drewN nq) ⟨rfl, rfl, rfl, rfl⟩)
  have V4 : Vars (w3.drewN nq) w.heap.size now A len cap kd k i T := ⟨V3.out.x, V3.out.d, V3.out.z⟩
  clear hW d0 d1 d2 d3
  generalize w3.drewN nq = w4 at *
  obtain ⟨x0, x1⟩ := xcells V4.x
  obtain ⟨d0, d1, d2, d3⟩ := dcells V4.d
  have VV4 := Lib.hid V4
  clear V4 hno
  by_cases hk1 : kd = 1
  · have hkb1 : (kd == 1) = true := by simp [hk1]
    have hkb4 : (kd == 4) = false := by simp [hk1]
    by_cases hlt : f < T
    · skip
      have hput := put_whl b m now k i T L w4 S4.out.own.whl hk hi (by omega) (by omega) (by omega)
      go_wp2_with fail
      refine hput.mono ?_
      clear hput d0 d1 d2 d3 x0 x1
      rintro r w5 ⟨hf5, hcase⟩
      have V5 := VV4.out.whl S4.out.own.whl hf5
      have F5 := Lib.hid (F4.out.trans hf5 (fun _ _ h => h))
      have hrow5 := S4.out.row.keep (kept_whl S4.out.own.whl hf5)
      obtain ⟨x0, x1⟩ := xcells V5.x
      obtain ⟨d0, d1, d2, d3⟩ := dcells V5.d
      have VV5 := Lib.hid V5
      rcases hcase with ⟨e, he, hek, hei, rfl, hw5⟩ | ⟨hno5, rfl, g, hg, hw5⟩
      · have o5 := S4.out.own.after hf5 hw5 (fun x hx => .inl hx)
        have S5 : Sync w0 w5 b m now L A len cap := ⟨o5, hrow5, S4.out.c1, S4.out.c2⟩
        have hrp := rput_any A len cap now k i T L w5 hrow5 (by omega) S5.own.whl.wf hk hi hnow.1 hnow.2 (by omega) (by omega) 0
        have SS5 := Lib.hid S5
        have HE := Lib.hid (And.intro he (And.intro hek hei))
        clear hf5 V5 hrow5 hw5 o5 S5 he hek hei
        go_wp2_with fail
        refine hrp.mono ?_
        clear hrp
        rintro r w6 ⟨hb6, hcase⟩
        obtain rfl : r = .returned (.tuple #[.agg #[.int .u64 now, .slice A len cap], .int .i64 4]) := by
          rcases hcase with ⟨_, _, _, _, h⟩ | ⟨hno6, _⟩
          · exact h
          · exact absurd HE.out.2 (hno6 e HE.out.1)
        have V6 := (VV5.out.below hb6).below (below_alloc w6 (xobj now A len cap))
        have S6 := (SS5.out.below hb6).alloc (xobj now A len cap)
        obtain ⟨z0, z1⟩ := xcells V6.z
        have fz0 := frozen_of V6.z 0
        have fz1 := frozen_of V6.z 1
        have SET := Lib.hid (S6.set V6.z (by decide) (by decide) (by decide) (by omega) 0 1 (.int .u64 now) (.slice A len cap))
        have FR := Lib.hid (((F5.out.then_below hb6).alloc (xobj now A len cap)).fresh (g := w.heap.size + 1 + 1) (by omega) 0 1 (.int .u64 now) (.slice A len cap))
        clear hb6 hcase V6 S6 x0 x1 d0 d1 d2 d3
        go_wp2
        refine bodyPost_ret (v := .tuple #[.agg #[.int .u64 now, .slice A len cap], .bool true]) (by simp [results, Try.results11, go_sem, z0, z1]; done) rfl ?_
        exact ⟨now, A, len, cap, rfl, L, SET.out, ⟨Int.le_refl _, by omega, fun hc => absurd hc (by omega)⟩, FR.out⟩
      · have o5 := S4.out.own.after hf5 hw5 (fun x hx => by
          rcases mem_ins.1 hx with rfl | hx
          · exact .inr hg
          · exact .inl hx)
        have hrp := rput_any A len cap now k i T L w5 hrow5 (by omega) S4.out.own.whl.wf hk hi hnow.1 hnow.2 (by omega) (by omega) g
        have O5 := Lib.hid o5
        have NO5 := Lib.hid hno5
        clear hf5 V5 hrow5 hw5 o5 hno5
        go_wp2_with fail
        refine hrp.mono ?_
        clear hrp
        rintro r w6 ⟨hb6, hcase⟩
        obtain ⟨A', len', cap', rfl, hr6, hc1, hc2⟩ : ∃ A' len' cap', r = .returned (.tuple #[.agg #[.int .u64 now, .slice A' len' cap'], .int .i64 0]) ∧ RowE w6 A' len' (ins ⟨g, k, i, if T < now then now else T⟩ L) ∧ len' ≤ cap' ∧ cap' ≤ maxLen := by
          rcases hcase with ⟨e, he, h1, h2, _⟩ | ⟨_, h⟩
          · exact absurd ⟨h1, h2⟩ (NO5.out e he)
          · exact h
        have V6 := (VV5.out.below hb6).below (below_alloc w6 (xobj now A' len' cap'))
        have S6 : Sync w0 (w6.alloc (xobj now A' len' cap')) b m now _ A' len' cap' := Sync.alloc ⟨O5.out.below hb6, hr6, hc1, hc2⟩ _
        obtain ⟨z0, z1⟩ := xcells V6.z
        have fz0 := frozen_of V6.z 0
        have fz1 := frozen_of V6.z 1
        have SET := Lib.hid (S6.set V6.z (by decide) (by decide) (by decide) (by omega) 0 1 (.int .u64 now) (.slice A' len' cap'))
        have FR := Lib.hid (((F5.out.then_below hb6).alloc (xobj now A' len' cap')).fresh (g := w.heap.size + 1 + 1) (by omega) 0 1 (.int .u64 now) (.slice A' len' cap'))
        clear hb6 hcase V6 S6 x0 x1 d0 d1 d2 d3 hr6
        go_wp2
        refine bodyPost_ret (v := .tuple #[.agg #[.int .u64 now, .slice A' len' cap'], .bool true]) (by simp [results, Try.results11, go_sem, z0, z1]; done) rfl ?_
        exact ⟨now, A', len', cap', rfl, _, SET.out, ⟨Int.le_refl _, by rw [length_ins]; exact Nat.le_refl _, fun hc => absurd hc (by omega)⟩, FR.out⟩
    · skip
      have hput := put_whl b m now k i f L w4 S4.out.own.whl hk hi (by omega) (by omega) (by omega)
      go_wp2_with fail
      refine hput.mono ?_
      clear hput d0 d1 d2 d3 x0 x1
      rintro r w5 ⟨hf5, hcase⟩
      have V5 := VV4.out.whl S4.out.own.whl hf5
      have F5 := Lib.hid (F4.out.trans hf5 (fun _ _ h => h))
      have hrow5 := S4.out.row.keep (kept_whl S4.out.own.whl hf5)
      obtain ⟨x0, x1⟩ := xcells V5.x
      obtain ⟨d0, d1, d2, d3⟩ := dcells V5.d
      have VV5 := Lib.hid V5
      rcases hcase with ⟨e, he, hek, hei, rfl, hw5⟩ | ⟨hno5, rfl, g, hg, hw5⟩
      · have o5 := S4.out.own.after hf5 hw5 (fun x hx => .inl hx)
        have S5 : Sync w0 w5 b m now L A len cap := ⟨o5, hrow5, S4.out.c1, S4.out.c2⟩
        have hrp := rput_any A len cap now k i f L w5 hrow5 (by omega) S5.own.whl.wf hk hi hnow.1 hnow.2 (by omega) (by omega) 0
        have SS5 := Lib.hid S5
        have HE := Lib.hid (And.intro he (And.intro hek hei))
        clear hf5 V5 hrow5 hw5 o5 S5 he hek hei
        go_wp2_with fail
        refine hrp.mono ?_
        clear hrp
        rintro r w6 ⟨hb6, hcase⟩
        obtain rfl : r = .returned (.tuple #[.agg #[.int .u64 now, .slice A len cap], .int .i64 4]) := by
          rcases hcase with ⟨_, _, _, _, h⟩ | ⟨hno6, _⟩
          · exact h
          · exact absurd HE.out.2 (hno6 e HE.out.1)
        have V6 := (VV5.out.below hb6).below (below_alloc w6 (xobj now A len cap))
        have S6 := (SS5.out.below hb6).alloc (xobj now A len cap)
        obtain ⟨z0, z1⟩ := xcells V6.z
        have fz0 := frozen_of V6.z 0
        have fz1 := frozen_of V6.z 1
        have SET := Lib.hid (S6.set V6.z (by decide) (by decide) (by decide) (by omega) 0 1 (.int .u64 now) (.slice A len cap))
        have FR := Lib.hid (((F5.out.then_below hb6).alloc (xobj now A len cap)).fresh (g := w.heap.size + 1 + 1) (by omega) 0 1 (.int .u64 now) (.slice A len cap))
        clear hb6 hcase V6 S6 x0 x1 d0 d1 d2 d3
        go_wp2
        refine bodyPost_ret (v := .tuple #[.agg #[.int .u64 now, .slice A len cap], .bool true]) (by simp [results, Try.results11, go_sem, z0, z1]; done) rfl ?_
        exact ⟨now, A, len, cap, rfl, L, SET.out, ⟨Int.le_refl _, by omega, fun hc => absurd hc (by omega)⟩, FR.out⟩
      · have o5 := S4.out.own.after hf5 hw5 (fun x hx => by
          rcases mem_ins.1 hx with rfl | hx
          · exact .inr hg
          · exact .inl hx)
        have hrp := rput_any A len cap now k i f L w5 hrow5 (by omega) S4.out.own.whl.wf hk hi hnow.1 hnow.2 (by omega) (by omega) g
        have O5 := Lib.hid o5
        have NO5 := Lib.hid hno5
        clear hf5 V5 hrow5 hw5 o5 hno5
        go_wp2_with fail
        refine hrp.mono ?_
        clear hrp
        rintro r w6 ⟨hb6, hcase⟩
        obtain ⟨A', len', cap', rfl, hr6, hc1, hc2⟩ : ∃ A' len' cap', r = .returned (.tuple #[.agg #[.int .u64 now, .slice A' len' cap'], .int .i64 0]) ∧ RowE w6 A' len' (ins ⟨g, k, i, if f < now then now else f⟩ L) ∧ len' ≤ cap' ∧ cap' ≤ maxLen := by
          rcases hcase with ⟨e, he, h1, h2, _⟩ | ⟨_, h⟩
          · exact absurd ⟨h1, h2⟩ (NO5.out e he)
          · exact h
        have V6 := (VV5.out.below hb6).below (below_alloc w6 (xobj now A' len' cap'))
        have S6 : Sync w0 (w6.alloc (xobj now A' len' cap')) b m now _ A' len' cap' := Sync.alloc ⟨O5.out.below hb6, hr6, hc1, hc2⟩ _
        obtain ⟨z0, z1⟩ := xcells V6.z
        have fz0 := frozen_of V6.z 0
        have fz1 := frozen_of V6.z 1
        have SET := Lib.hid (S6.set V6.z (by decide) (by decide) (by decide) (by omega) 0 1 (.int .u64 now) (.slice A' len' cap'))
        have FR := Lib.hid (((F5.out.then_below hb6).alloc (xobj now A' len' cap')).fresh (g := w.heap.size + 1 + 1) (by omega) 0 1 (.int .u64 now) (.slice A' len' cap'))
        clear hb6 hcase V6 S6 x0 x1 d0 d1 d2 d3 hr6
        go_wp2
        refine bodyPost_ret (v := .tuple #[.agg #[.int .u64 now, .slice A' len' cap'], .bool true]) (by simp [results, Try.results11, go_sem, z0, z1]; done) rfl ?_
        exact ⟨now, A', len', cap', rfl, _, SET.out, ⟨Int.le_refl _, by rw [length_ins]; exact Nat.le_refl _, fun hc => absurd hc (by omega)⟩, FR.out⟩
  · have hkb1 : (kd == 1) = false := by simp [hk1]
    by_cases hk4 : kd = 4
    · have hkb4 : (kd == 4) = true := by simp [hk4]
      have hput := put_whl b m now k i T L w4 S4.out.own.whl hk hi (by omega) (by omega) (by omega)
      go_wp2_with fail
      refine hput.mono ?_
      clear hput d0 d1 d2 d3 x0 x1
      rintro r w5 ⟨hf5, hcase⟩
      have V5 := VV4.out.whl S4.out.own.whl hf5
      have F5 := Lib.hid (F4.out.trans hf5 (fun _ _ h => h))
      have hrow5 := S4.out.row.keep (kept_whl S4.out.own.whl hf5)
      obtain ⟨x0, x1⟩ := xcells V5.x
      obtain ⟨d0, d1, d2, d3⟩ := dcells V5.d
      have VV5 := Lib.hid V5
      rcases hcase with ⟨e, he, hek, hei, rfl, hw5⟩ | ⟨hno5, rfl, g, hg, hw5⟩
      · have o5 := S4.out.own.after hf5 hw5 (fun x hx => .inl hx)
        have S5 : Sync w0 w5 b m now L A len cap := ⟨o5, hrow5, S4.out.c1, S4.out.c2⟩
        have hrp := rput_any A len cap now k i T L w5 hrow5 (by omega) S5.own.whl.wf hk hi hnow.1 hnow.2 (by omega) (by omega) 0
        have SS5 := Lib.hid S5
        have HE := Lib.hid (And.intro he (And.intro hek hei))
        clear hf5 V5 hrow5 hw5 o5 S5 he hek hei
        go_wp2_with fail
        refine hrp.mono ?_
        clear hrp
        rintro r w6 ⟨hb6, hcase⟩
        obtain rfl : r = .returned (.tuple #[.agg #[.int .u64 now, .slice A len cap], .int .i64 4]) := by
          rcases hcase with ⟨_, _, _, _, h⟩ | ⟨hno6, _⟩
          · exact h
          · exact absurd HE.out.2 (hno6 e HE.out.1)
        have V6 := (VV5.out.below hb6).below (below_alloc w6 (xobj now A len cap))
        have S6 := (SS5.out.below hb6).alloc (xobj now A len cap)
        obtain ⟨z0, z1⟩ := xcells V6.z
        have fz0 := frozen_of V6.z 0
        have fz1 := frozen_of V6.z 1
        have SET := Lib.hid (S6.set V6.z (by decide) (by decide) (by decide) (by omega) 0 1 (.int .u64 now) (.slice A len cap))
        have FR := Lib.hid (((F5.out.then_below hb6).alloc (xobj now A len cap)).fresh (g := w.heap.size + 1 + 1) (by omega) 0 1 (.int .u64 now) (.slice A len cap))
        clear hb6 hcase V6 S6 x0 x1 d0 d1 d2 d3
        go_wp2
        refine bodyPost_ret (v := .tuple #[.agg #[.int .u64 now, .slice A len cap], .bool true]) (by simp [results, Try.results11, go_sem, z0, z1]; done) rfl ?_
        exact ⟨now, A, len, cap, rfl, L, SET.out, ⟨Int.le_refl _, by omega, fun hc => absurd hc (by omega)⟩, FR.out⟩
      · have o5 := S4.out.own.after hf5 hw5 (fun x hx => by
          rcases mem_ins.1 hx with rfl | hx
          · exact .inr hg
          · exact .inl hx)
        have hrp := rput_any A len cap now k i T L w5 hrow5 (by omega) S4.out.own.whl.wf hk hi hnow.1 hnow.2 (by omega) (by omega) g
        have O5 := Lib.hid o5
        have NO5 := Lib.hid hno5
        clear hf5 V5 hrow5 hw5 o5 hno5
        go_wp2_with fail
        refine hrp.mono ?_
        clear hrp
        rintro r w6 ⟨hb6, hcase⟩
        obtain ⟨A', len', cap', rfl, hr6, hc1, hc2⟩ : ∃ A' len' cap', r = .returned (.tuple #[.agg #[.int .u64 now, .slice A' len' cap'], .int .i64 0]) ∧ RowE w6 A' len' (ins ⟨g, k, i, if T < now then now else T⟩ L) ∧ len' ≤ cap' ∧ cap' ≤ maxLen := by
          rcases hcase with ⟨e, he, h1, h2, _⟩ | ⟨_, h⟩
          · exact absurd ⟨h1, h2⟩ (NO5.out e he)
          · exact h
        have V6 := (VV5.out.below hb6).below (below_alloc w6 (xobj now A' len' cap'))
        have S6 : Sync w0 (w6.alloc (xobj now A' len' cap')) b m now _ A' len' cap' := Sync.alloc ⟨O5.out.below hb6, hr6, hc1, hc2⟩ _
        obtain ⟨z0, z1⟩ := xcells V6.z
        have fz0 := frozen_of V6.z 0
        have fz1 := frozen_of V6.z 1
        have SET := Lib.hid (S6.set V6.z (by decide) (by decide) (by decide) (by omega) 0 1 (.int .u64 now) (.slice A' len' cap'))
        have FR := Lib.hid (((F5.out.then_below hb6).alloc (xobj now A' len' cap')).fresh (g := w.heap.size + 1 + 1) (by omega) 0 1 (.int .u64 now) (.slice A' len' cap'))
        clear hb6 hcase V6 S6 x0 x1 d0 d1 d2 d3 hr6
        go_wp2
        refine bodyPost_ret (v := .tuple #[.agg #[.int .u64 now, .slice A' len' cap'], .bool true]) (by simp [results, Try.results11, go_sem, z0, z1]; done) rfl ?_
        exact ⟨now, A', len', cap', rfl, _, SET.out, ⟨Int.le_refl _, by rw [length_ins]; exact Nat.le_refl _, fun hc => absurd hc (by omega)⟩, FR.out⟩
    · have hkb4 : (kd == 4) = false := by simp [hk4]
      by_cases hk2 : kd = 2
      · have hkb2 : (kd == 2) = true := by simp [hk2]
        have hput := cancel_whl b m now k i L w4 S4.out.own.whl hk hi
        go_wp2_with fail
        refine hput.mono ?_
        clear hput d0 d1 d2 d3 x0 x1
        rintro r w5 ⟨hf5, hcase⟩
        have V5 := VV4.out.whl S4.out.own.whl hf5
        have F5 := Lib.hid (F4.out.trans hf5 (fun _ _ h => h))
        have hrow5 := S4.out.row.keep (kept_whl S4.out.own.whl hf5)
        obtain ⟨x0, x1⟩ := xcells V5.x
        obtain ⟨d0, d1, d2, d3⟩ := dcells V5.d
        have VV5 := Lib.hid V5
        have hrp := rcancel_any A len cap now k i L w5 hrow5 (by omega) S4.out.c1 S4.out.c2 S4.out.own.whl.wf hk hi
        rcases hcase with ⟨e, he, hek, hei, rfl, hw5⟩ | ⟨hno5, rfl, hw5⟩
        · have o5 := S4.out.own.after hf5 hw5 (fun x hx => .inl (List.mem_filter.1 hx).1)
          have O5 := Lib.hid o5
          have HE := Lib.hid (And.intro he (And.intro hek hei))
          clear hf5 V5 hrow5 hw5 o5 he hek hei
          go_wp2_with fail
          refine hrp.mono ?_
          clear hrp
          rintro r w6 ⟨hb6, hcase⟩
          obtain ⟨A', len', cap', rfl, hr6, hc1, hc2⟩ : ∃ A' len' cap', r = .returned (.tuple #[.agg #[.int .u64 now, .slice A' len' cap'], .bool true]) ∧ RowE w6 A' len' (del e.g L) ∧ len' ≤ cap' ∧ cap' ≤ maxLen := by
            rcases hcase with ⟨l1, e', l2, hL, hek', hei', A', len', cap', h1, h2, h3, h4⟩ | ⟨hno6, _⟩
            · have hee : e' = e := by
                have hkeys := S4.out.own.whl.keys
                have hm : e ∈ L := HE.out.1
                rw [hL] at hm hkeys
                rw [List.pairwise_append, List.pairwise_cons] at hkeys
                rcases List.mem_append.1 hm with hm | hm
                · exact absurd ⟨by rw [HE.out.2.1, hek'], by rw [HE.out.2.2, hei']⟩ (hkeys.2.2 e hm e' (by simp))
                · rcases List.mem_cons.1 hm with hm | hm
                  · exact hm.symm
                  · exact absurd ⟨by rw [HE.out.2.1, hek'], by rw [HE.out.2.2, hei']⟩ (hkeys.2.1.1 e hm)
              subst hee
              have hap := S4.out.own.whl.apart
              have hd : del e'.g L = l1 ++ l2 := by
                rw [hL] at hap ⊢
                exact del_split hap
              exact ⟨A', len', cap', h1, by rw [hd]; exact h2, h3, h4⟩
            · exact absurd HE.out.2 (hno6 e HE.out.1)
          have hdl : (del e.g L).length ≤ L.length := List.length_filter_le _ _
          have V6 := (VV5.out.below hb6).below (below_alloc w6 (xobj now A' len' cap'))
          have S6 : Sync w0 (w6.alloc (xobj now A' len' cap')) b m now _ A' len' cap' := Sync.alloc ⟨O5.out.below hb6, hr6, hc1, hc2⟩ _
          obtain ⟨z0, z1⟩ := xcells V6.z
          have fz0 := frozen_of V6.z 0
          have fz1 := frozen_of V6.z 1
          have SET := Lib.hid (S6.set V6.z (by decide) (by decide) (by decide) (by omega) 0 1 (.int .u64 now) (.slice A' len' cap'))
          have FR := Lib.hid (((F5.out.then_below hb6).alloc (xobj now A' len' cap')).fresh (g := w.heap.size + 1 + 1) (by omega) 0 1 (.int .u64 now) (.slice A' len' cap'))
          clear hb6 hcase V6 S6 x0 x1 d0 d1 d2 d3 hr6
          go_wp2
          refine bodyPost_ret (v := .tuple #[.agg #[.int .u64 now, .slice A' len' cap'], .bool true]) (by simp [results, Try.results11, go_sem, z0, z1]; done) rfl ?_
          exact ⟨now, A', len', cap', rfl, _, SET.out, ⟨Int.le_refl _, by omega, fun hc => absurd hc (by omega)⟩, FR.out⟩
        · have o5 := S4.out.own.after hf5 hw5 (fun x hx => .inl hx)
          have S5 : Sync w0 w5 b m now L A len cap := ⟨o5, hrow5, S4.out.c1, S4.out.c2⟩
          have SS5 := Lib.hid S5
          have NO5 := Lib.hid hno5
          clear hf5 V5 hrow5 hw5 o5 S5 hno5
          go_wp2_with fail
          refine hrp.mono ?_
          clear hrp
          rintro r w6 ⟨hb6, hcase⟩
          obtain rfl : r = .returned (.tuple #[.agg #[.int .u64 now, .slice A len cap], .bool false]) := by
            rcases hcase with ⟨l1, e', l2, hL, hek', hei', _⟩ | ⟨_, h⟩
            · exact absurd ⟨hek', hei'⟩ (NO5.out e' (by rw [hL]; simp))
            · exact h
          have V6 := (VV5.out.below hb6).below (below_alloc w6 (xobj now A len cap))
          have S6 := (SS5.out.below hb6).alloc (xobj now A len cap)
          obtain ⟨z0, z1⟩ := xcells V6.z
          have fz0 := frozen_of V6.z 0
          have fz1 := frozen_of V6.z 1
          have SET := Lib.hid (S6.set V6.z (by decide) (by decide) (by decide) (by omega) 0 1 (.int .u64 now) (.slice A len cap))
          have FR := Lib.hid (((F5.out.then_below hb6).alloc (xobj now A len cap)).fresh (g := w.heap.size + 1 + 1) (by omega) 0 1 (.int .u64 now) (.slice A len cap))
          clear hb6 hcase V6 S6 x0 x1 d0 d1 d2 d3
          go_wp2
          refine bodyPost_ret (v := .tuple #[.agg #[.int .u64 now, .slice A len cap], .bool true]) (by simp [results, Try.results11, go_sem, z0, z1]; done) rfl ?_
          exact ⟨now, A, len, cap, rfl, L, SET.out, ⟨Int.le_refl _, by omega, fun hc => absurd hc (by omega)⟩, FR.out⟩
      · have hkb2 : (kd == 2) = false := by simp [hk2]
        clear hk1 hk2 hk4
        by_cases hlt : f < T
        · skip
          have hput := step_whl b m now 18446744073709551615 L w4 S4.out.own.whl (by omega)
          go_wp2_with fail
          refine hput.mono ?_
          clear hput d0 d1 d2 d3 x0 x1
          rintro r w5 ⟨hf5, hcase⟩
          have V5 := VV4.out.whl S4.out.own.whl hf5
          have F5 := Lib.hid (F4.out.trans hf5 (fun _ _ h => h))
          have hrow5 := S4.out.row.keep (kept_whl S4.out.own.whl hf5)
          rcases hcase with ⟨e, l, rfl, hed, rfl, hw5⟩ | ⟨hall, rfl, hw5⟩
          · have o5 := (S4.out.own.after hf5 hw5 (fun x hx => .inl (by simp [hx]))).alloc (tobj e.k e.i)
            have hrow6 := hrow5.below (below_alloc w5 (tobj e.k e.i))
            have V6 := V5.below (below_alloc w5 (tobj e.k e.i))
            have hwe := S4.out.own.whl.wf e (by simp)
            have hsame := sameT e.k e.i hwe.1 hwe.2
            have hed1 := (S4.out.own.whl.due e (by simp)).1
            have hk5 := heap_alloc_at w5 (tobj e.k e.i)
            obtain ⟨x0, x1⟩ := xcells V6.x
            have hrs := rstep_some A len cap now 18446744073709551615 e l _ hrow6 (by simp at hlen hrl; omega) S4.out.c1 S4.out.c2 hed
            have O5 := Lib.hid o5
            have VV6 := Lib.hid V6
            have K5 := Lib.hid hk5
            clear hf5 V5 hrow5 hw5 o5 hrow6 V6 hk5 hed
            go_wp2_with fail
            refine hrs.mono ?_
            clear hrs x0 x1
            rintro r w6 ⟨hb6, A', rfl, hr6⟩
            have hb8 : Below w6.heap.size w6 ((w6.alloc (xobj e.d A' (len - 1) (cap - 1))).alloc (tobj e.k e.i)) := ((Below.refl _ _).alloc (Nat.le_refl _) _).alloc (by simp) _
            have V8 := (VV6.out.below hb6).below hb8
            have S8 : Sync w0 ((w6.alloc (xobj e.d A' (len - 1) (cap - 1))).alloc (tobj e.k e.i)) b m e.d l A' (len - 1) (cap - 1) := Sync.below ⟨O5.out.below hb6, hr6, by have := S4.out.c1; omega, by have := S4.out.c2; omega⟩ hb8
            obtain ⟨kx0, kx1⟩ := cells2 (kb_below (kb_below K5.out hb6) hb8)
            obtain ⟨yx0, yx1⟩ := xcells (kb_alloc (heap_alloc_at w6 (xobj e.d A' (len - 1) (cap - 1))) (tobj e.k e.i))
            have hm9 := cells2 (heap_alloc_at (w6.alloc (xobj e.d A' (len - 1) (cap - 1))) (tobj e.k e.i))
            rw [show (w6.alloc (xobj e.d A' (len - 1) (cap - 1))).heap.size = w6.heap.size + 1 by simp] at hm9
            obtain ⟨m0, m1⟩ := hm9
            obtain ⟨z0, z1⟩ := xcells V8.z
            have fz0 := frozen_of V8.z 0
            have fz1 := frozen_of V8.z 1
            have SET := Lib.hid ((S8.set V8.z (by decide) (by decide) (by decide) (by omega) 0 1 (.int .u64 e.d) (.slice A' (len - 1) (cap - 1))).drew)
            have FR := Lib.hid ((((((F5.out.alloc (tobj e.k e.i)).then_below hb6).alloc (xobj e.d A' (len - 1) (cap - 1))).alloc (tobj e.k e.i)).fresh (g := w.heap.size + 1 + 1) (by omega) 0 1 (.int .u64 e.d) (.slice A' (len - 1) (cap - 1))).ali (drew_ali _))
            clear V8 S8 hr6
            go_wp2
            generalize (w6.alloc (xobj e.d A' (len - 1) (cap - 1))).alloc (tobj e.k e.i) = w8 at *
            go_region
            all_goals go_wp2
            all_goals refine bodyPost_ret (v := .tuple #[.agg #[.int .u64 e.d, .slice A' (len - 1) (cap - 1)], .bool true]) (by simp [results, Try.results11, go_sem, z0, z1]; done) rfl ?_
            all_goals exact ⟨e.d, A', len - 1, cap - 1, rfl, l, SET.out, ⟨hed1, by simp; omega, fun _ => .inr ⟨e, rfl, rfl⟩⟩, FR.out⟩
          · have o5 := (S4.out.own.after hf5 hw5 (fun x hx => .inl hx)).alloc (tobj 0 0)
            have hrow6 := hrow5.below (below_alloc w5 (tobj 0 0))
            have V6 := V5.below (below_alloc w5 (tobj 0 0))
            have hsame := sameT 0 0 ⟨by omega, by omega⟩ ⟨by omega, by omega⟩
            have hk5 := heap_alloc_at w5 (tobj 0 0)
            obtain ⟨x0, x1⟩ := xcells V6.x
            have hrs := rstep_none A len cap now 18446744073709551615 L _ hrow6 (by omega) hall
            obtain ⟨mx, hmx⟩ : ∃ mx, (if now < 18446744073709551615 then 18446744073709551615 else now) = mx := ⟨_, rfl⟩
            have hmxb : now ≤ mx := by rw [← hmx]; split <;> omega
            rw [hmx] at hrs o5
            have O5 := Lib.hid o5
            have R6 := Lib.hid hrow6
            have VV6 := Lib.hid V6
            have K5 := Lib.hid hk5
            clear hf5 V5 hrow5 hw5 o5 hrow6 V6 hk5 hall hmx
            go_wp2_with fail
            refine hrs.mono ?_
            clear hrs x0 x1
            rintro r w6 ⟨hb6, rfl⟩
            have hb8 : Below w6.heap.size w6 ((w6.alloc (xobj mx A len cap)).alloc (tobj 0 0)) := ((Below.refl _ _).alloc (Nat.le_refl _) _).alloc (by simp) _
            have V8 := (VV6.out.below hb6).below hb8
            have S8 : Sync w0 ((w6.alloc (xobj mx A len cap)).alloc (tobj 0 0)) b m mx L A len cap := Sync.below ⟨O5.out.below hb6, R6.out.below hb6, S4.out.c1, S4.out.c2⟩ hb8
            obtain ⟨kx0, kx1⟩ := cells2 (kb_below (kb_below K5.out hb6) hb8)
            obtain ⟨yx0, yx1⟩ := xcells (kb_alloc (heap_alloc_at w6 (xobj mx A len cap)) (tobj 0 0))
            have hm9 := cells2 (heap_alloc_at (w6.alloc (xobj mx A len cap)) (tobj 0 0))
            rw [show (w6.alloc (xobj mx A len cap)).heap.size = w6.heap.size + 1 by simp] at hm9
            obtain ⟨m0, m1⟩ := hm9
            obtain ⟨z0, z1⟩ := xcells V8.z
            have fz0 := frozen_of V8.z 0
            have fz1 := frozen_of V8.z 1
            have SET := Lib.hid ((S8.set V8.z (by decide) (by decide) (by decide) (by omega) 0 1 (.int .u64 mx) (.slice A len cap)).drew)
            have FR := Lib.hid ((((((F5.out.alloc (tobj 0 0)).then_below hb6).alloc (xobj mx A len cap)).alloc (tobj 0 0)).fresh (g := w.heap.size + 1 + 1) (by omega) 0 1 (.int .u64 mx) (.slice A len cap)).ali (drew_ali _))
            clear V8 S8
            go_wp2
            generalize (w6.alloc (xobj mx A len cap)).alloc (tobj 0 0) = w8 at *
            go_region
            all_goals go_wp2
            all_goals refine bodyPost_ret (v := .tuple #[.agg #[.int .u64 mx, .slice A len cap], .bool true]) (by simp [results, Try.results11, go_sem, z0, z1]; done) rfl ?_
            all_goals exact ⟨mx, A, len, cap, rfl, L, SET.out, ⟨hmxb, by omega, fun _ => .inl rfl⟩, FR.out⟩
        · skip
          have hput := step_whl b m now f L w4 S4.out.own.whl (by omega)
          go_wp2_with fail
          refine hput.mono ?_
          clear hput d0 d1 d2 d3 x0 x1
          rintro r w5 ⟨hf5, hcase⟩
          have V5 := VV4.out.whl S4.out.own.whl hf5
          have F5 := Lib.hid (F4.out.trans hf5 (fun _ _ h => h))
          have hrow5 := S4.out.row.keep (kept_whl S4.out.own.whl hf5)
          rcases hcase with ⟨e, l, rfl, hed, rfl, hw5⟩ | ⟨hall, rfl, hw5⟩
          · have o5 := (S4.out.own.after hf5 hw5 (fun x hx => .inl (by simp [hx]))).alloc (tobj e.k e.i)
            have hrow6 := hrow5.below (below_alloc w5 (tobj e.k e.i))
            have V6 := V5.below (below_alloc w5 (tobj e.k e.i))
            have hwe := S4.out.own.whl.wf e (by simp)
            have hsame := sameT e.k e.i hwe.1 hwe.2
            have hed1 := (S4.out.own.whl.due e (by simp)).1
            have hk5 := heap_alloc_at w5 (tobj e.k e.i)
            obtain ⟨x0, x1⟩ := xcells V6.x
            have hrs := rstep_some A len cap now f e l _ hrow6 (by simp at hlen hrl; omega) S4.out.c1 S4.out.c2 hed
            have O5 := Lib.hid o5
            have VV6 := Lib.hid V6
            have K5 := Lib.hid hk5
            clear hf5 V5 hrow5 hw5 o5 hrow6 V6 hk5 hed
            go_wp2_with fail
            refine hrs.mono ?_
            clear hrs x0 x1
            rintro r w6 ⟨hb6, A', rfl, hr6⟩
            have hb8 : Below w6.heap.size w6 ((w6.alloc (xobj e.d A' (len - 1) (cap - 1))).alloc (tobj e.k e.i)) := ((Below.refl _ _).alloc (Nat.le_refl _) _).alloc (by simp) _
            have V8 := (VV6.out.below hb6).below hb8
            have S8 : Sync w0 ((w6.alloc (xobj e.d A' (len - 1) (cap - 1))).alloc (tobj e.k e.i)) b m e.d l A' (len - 1) (cap - 1) := Sync.below ⟨O5.out.below hb6, hr6, by have := S4.out.c1; omega, by have := S4.out.c2; omega⟩ hb8
            obtain ⟨kx0, kx1⟩ := cells2 (kb_below (kb_below K5.out hb6) hb8)
            obtain ⟨yx0, yx1⟩ := xcells (kb_alloc (heap_alloc_at w6 (xobj e.d A' (len - 1) (cap - 1))) (tobj e.k e.i))
            have hm9 := cells2 (heap_alloc_at (w6.alloc (xobj e.d A' (len - 1) (cap - 1))) (tobj e.k e.i))
            rw [show (w6.alloc (xobj e.d A' (len - 1) (cap - 1))).heap.size = w6.heap.size + 1 by simp] at hm9
            obtain ⟨m0, m1⟩ := hm9
            obtain ⟨z0, z1⟩ := xcells V8.z
            have fz0 := frozen_of V8.z 0
            have fz1 := frozen_of V8.z 1
            have SET := Lib.hid ((S8.set V8.z (by decide) (by decide) (by decide) (by omega) 0 1 (.int .u64 e.d) (.slice A' (len - 1) (cap - 1))).drew)
            have FR := Lib.hid ((((((F5.out.alloc (tobj e.k e.i)).then_below hb6).alloc (xobj e.d A' (len - 1) (cap - 1))).alloc (tobj e.k e.i)).fresh (g := w.heap.size + 1 + 1) (by omega) 0 1 (.int .u64 e.d) (.slice A' (len - 1) (cap - 1))).ali (drew_ali _))
            clear V8 S8 hr6
            go_wp2
            generalize (w6.alloc (xobj e.d A' (len - 1) (cap - 1))).alloc (tobj e.k e.i) = w8 at *
            go_region
            all_goals go_wp2
            all_goals refine bodyPost_ret (v := .tuple #[.agg #[.int .u64 e.d, .slice A' (len - 1) (cap - 1)], .bool true]) (by simp [results, Try.results11, go_sem, z0, z1]; done) rfl ?_
            all_goals exact ⟨e.d, A', len - 1, cap - 1, rfl, l, SET.out, ⟨hed1, by simp; omega, fun _ => .inr ⟨e, rfl, rfl⟩⟩, FR.out⟩
          · have o5 := (S4.out.own.after hf5 hw5 (fun x hx => .inl hx)).alloc (tobj 0 0)
            have hrow6 := hrow5.below (below_alloc w5 (tobj 0 0))
            have V6 := V5.below (below_alloc w5 (tobj 0 0))
            have hsame := sameT 0 0 ⟨by omega, by omega⟩ ⟨by omega, by omega⟩
            have hk5 := heap_alloc_at w5 (tobj 0 0)
            obtain ⟨x0, x1⟩ := xcells V6.x
            have hrs := rstep_none A len cap now f L _ hrow6 (by omega) hall
            obtain ⟨mx, hmx⟩ : ∃ mx, (if now < f then f else now) = mx := ⟨_, rfl⟩
            have hmxb : now ≤ mx := by rw [← hmx]; split <;> omega
            rw [hmx] at hrs o5
            have O5 := Lib.hid o5
            have R6 := Lib.hid hrow6
            have VV6 := Lib.hid V6
            have K5 := Lib.hid hk5
            clear hf5 V5 hrow5 hw5 o5 hrow6 V6 hk5 hall hmx
            go_wp2_with fail
            refine hrs.mono ?_
            clear hrs x0 x1
            rintro r w6 ⟨hb6, rfl⟩
            have hb8 : Below w6.heap.size w6 ((w6.alloc (xobj mx A len cap)).alloc (tobj 0 0)) := ((Below.refl _ _).alloc (Nat.le_refl _) _).alloc (by simp) _
            have V8 := (VV6.out.below hb6).below hb8
            have S8 : Sync w0 ((w6.alloc (xobj mx A len cap)).alloc (tobj 0 0)) b m mx L A len cap := Sync.below ⟨O5.out.below hb6, R6.out.below hb6, S4.out.c1, S4.out.c2⟩ hb8
            obtain ⟨kx0, kx1⟩ := cells2 (kb_below (kb_below K5.out hb6) hb8)
            obtain ⟨yx0, yx1⟩ := xcells (kb_alloc (heap_alloc_at w6 (xobj mx A len cap)) (tobj 0 0))
            have hm9 := cells2 (heap_alloc_at (w6.alloc (xobj mx A len cap)) (tobj 0 0))
            rw [show (w6.alloc (xobj mx A len cap)).heap.size = w6.heap.size + 1 by simp] at hm9
            obtain ⟨m0, m1⟩ := hm9
            obtain ⟨z0, z1⟩ := xcells V8.z
            have fz0 := frozen_of V8.z 0
            have fz1 := frozen_of V8.z 1
            have SET := Lib.hid ((S8.set V8.z (by decide) (by decide) (by decide) (by omega) 0 1 (.int .u64 mx) (.slice A len cap)).drew)
            have FR := Lib.hid ((((((F5.out.alloc (tobj 0 0)).then_below hb6).alloc (xobj mx A len cap)).alloc (tobj 0 0)).fresh (g := w.heap.size + 1 + 1) (by omega) 0 1 (.int .u64 mx) (.slice A len cap)).ali (drew_ali _))
            clear V8 S8
            go_wp2
            generalize (w6.alloc (xobj mx A len cap)).alloc (tobj 0 0) = w8 at *
            go_region
            all_goals go_wp2
            all_goals refine bodyPost_ret (v := .tuple #[.agg #[.int .u64 mx, .slice A len cap], .bool true]) (by simp [results, Try.results11, go_sem, z0, z1]; done) rfl ?_
            all_goals exact ⟨mx, A, len, cap, rfl, L, SET.out, ⟨hmxb, by omega, fun _ => .inl rfl⟩, FR.out⟩

end Go.Proofs.Ytgpebbopggmgbaa
