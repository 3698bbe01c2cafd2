/- Contracts of porpoiselaw12: ran; deeds that came in. -/
import Derived.Test.YtlphahkmibhidaaDo12c
import Derived.Deep.DeepCutAuto
namespace Go.Proofs.Ytlphahkmibhidaa
set_option linter.unusedVariables false
open Go.ChangeShapes Go.WideShapes Go.ChangeAt Go.RowKit

/-! ### deeds that came in -/
theorem Dd.ones (d : Dd) : ∀ u ∈ d.vals, u.oneCell' = true := by intro v hv; simp only [Dd.vals, List.mem_cons, List.not_mem_nil, or_false] at hv; rcases hv with rfl | rfl | rfl | rfl | rfl | rfl | rfl | rfl <;> rfl
def drec : Rec Dd := ⟨Dd.vals, 8, by decide, fun _ => rfl, Dd.ones⟩
abbrev ddK : List CK := [.int .i64, .int .i64, .int .i64, .int .i64, .int .i64, .int .i64, .int .i64, .int .i64]
theorem dd_flat {vs : List Value} (h : Flat ddK vs) : ∃ d : Dd, vs = d.vals ∧ d.Fits := by
  obtain _ | ⟨v0, vs⟩ := vs
  · exact h.elim
  obtain ⟨⟨x0, rfl, h0⟩, h⟩ := h
  obtain _ | ⟨v1, vs⟩ := vs
  · exact h.elim
  obtain ⟨⟨x1, rfl, h1⟩, h⟩ := h
  obtain _ | ⟨v2, vs⟩ := vs
  · exact h.elim
  obtain ⟨⟨x2, rfl, h2⟩, h⟩ := h
  obtain _ | ⟨v3, vs⟩ := vs
  · exact h.elim
  obtain ⟨⟨x3, rfl, h3⟩, h⟩ := h
  obtain _ | ⟨v4, vs⟩ := vs
  · exact h.elim
  obtain ⟨⟨x4, rfl, h4⟩, h⟩ := h
  obtain _ | ⟨v5, vs⟩ := vs
  · exact h.elim
  obtain ⟨⟨x5, rfl, h5⟩, h⟩ := h
  obtain _ | ⟨v6, vs⟩ := vs
  · exact h.elim
  obtain ⟨⟨x6, rfl, h6⟩, h⟩ := h
  obtain _ | ⟨v7, vs⟩ := vs
  · exact h.elim
  obtain ⟨⟨x7, rfl, h7⟩, h⟩ := h
  obtain _ | ⟨v8, vs⟩ := vs
  · exact ⟨⟨x0, x1, ⟨x2, x3, x4⟩, ⟨x5, x6, x7⟩⟩, rfl, bounds_i64 h0, bounds_i64 h1, ⟨bounds_i64 h2, bounds_i64 h3, bounds_i64 h4⟩, ⟨bounds_i64 h5, bounds_i64 h6, bounds_i64 h7⟩⟩
  · exact h.elim
theorem dds_in {w : World} {a : Option Addr} {l k : Nat} {D : List (List Value)} (h : SliceIn w ddK 64 a l k D) : ∃ V : List Dd, RowR drec w a l V ∧ (∀ x ∈ V, x.Fits) ∧ l ≤ maxLen := by
  obtain ⟨h1, h2, h3, _, h5, h6⟩ := h
  have hz : ∀ M : List (List Value), (∀ row ∈ M, Flat ddK row) → ∃ V : List Dd, M = V.map Dd.vals ∧ ∀ x ∈ V, x.Fits := by
    intro M
    induction M with
    | nil => intro _; exact ⟨[], rfl, by simp⟩
    | cons row M ih =>
      intro hM
      obtain ⟨V, e, hV⟩ := ih (fun r hr => hM r (by simp [hr]))
      obtain ⟨x, rfl, hx⟩ := dd_flat (hM row (by simp))
      exact ⟨x :: V, by simp [e], by intro y hy; rcases List.mem_cons.1 hy with rfl | hy; exact hx; exact hV y hy⟩
  obtain ⟨V, rfl, hV⟩ := hz D h2
  refine ⟨V, ⟨by simpa using h1, by omega, ?_⟩, hV, by omega⟩
  rcases h6 with h6 | ⟨b, off, e, hlt, hc⟩
  · exact .inl h6
  · refine .inr ⟨b, off, e, hlt, fun j u hu => ?_⟩
    have hj := (List.getElem?_eq_some_iff.1 hu).1
    have hfl := drec.flat_length V
    rw [hfl] at hj
    have h8 : drec.size = 8 := rfl
    rw [h8] at hj
    have hi : j / 8 < V.length := by omega
    have hV' : V[j / 8]? = some (V[j / 8]'hi) := List.getElem?_eq_getElem hi
    have hv : (V[j / 8]'hi).vals[j % 8]? = some ((V[j / 8]'hi).vals[j % 8]'(by show j % 8 < 8; omega)) := List.getElem?_eq_getElem _
    have h7 := drec.flat_at hV' hv
    rw [h8, show j / 8 * 8 + j % 8 = j by omega] at h7
    rw [h7] at hu
    injection hu with hu
    rw [← hu]
    have := hc (j / 8) (j % 8) (V[j / 8]'hi).vals _ (by rw [List.getElem?_map, hV']; rfl) hv
    rwa [show (ddK.length : Nat) = 8 from rfl, show j / 8 * 8 + j % 8 = j by omega] at this
theorem RowR.dd {w : World} {A : Option Addr} {n : Nat} {V : List Dd} (h : RowR drec w A n V) {i : Nat} (hi : i < n) : ∃ b off d, A = some ⟨b, off, none⟩ ∧ V[i]? = some d ∧ w.rangeAt b (off + i * 8) d.vals := by
  obtain ⟨b, off, a, hA, hV, _, hc⟩ := h.at_ hi
  exact ⟨b, off, a, hA, hV, fun j u hu => hc j u hu⟩
theorem dd_cells {w : World} {b p : Nat} {d : Dd} (h : w.rangeAt b p d.vals) : w.cell? ⟨b, p, none⟩ = some (.int .i64 d.kind) ∧ w.cell? ⟨b, p + 1, none⟩ = some (.int .i64 d.id) ∧ w.cell? ⟨b, p + 2, none⟩ = some (.int .i64 d.k.a) ∧ w.cell? ⟨b, p + 3, none⟩ = some (.int .i64 d.k.b) ∧ w.cell? ⟨b, p + 4, none⟩ = some (.int .i64 d.k.c) ∧
    w.cell? ⟨b, p + 5, none⟩ = some (.int .i64 d.t.a) ∧ w.cell? ⟨b, p + 6, none⟩ = some (.int .i64 d.t.b) ∧ w.cell? ⟨b, p + 7, none⟩ = some (.int .i64 d.t.c) :=
  ⟨h 0 _ rfl, h 1 _ rfl, h 2 _ rfl, h 3 _ rfl, h 4 _ rfl, h 5 _ rfl, h 6 _ rfl, h 7 _ rfl⟩
/-- A cache behind deeds. -/
def CA.run (V : List Dd) : CA := V.foldl CA.deed CA.none_
theorem CA.run_snoc (V : List Dd) (d : Dd) : CA.run (V ++ [d]) = (CA.run V).deed d := by simp [CA.run]
theorem CA.run_next {V : List Dd} {i : Nat} {d : Dd} (h : V[i]? = some d) : CA.run (V.take (i + 1)) = (CA.run (V.take i)).deed d := by rw [take_more h, CA.run_snoc]
theorem CA.deed_sizes (V : List Dd) : ∀ S : CA, (V.foldl CA.deed S).size ≤ S.size + V.length := by
  induction V with
  | nil => intro S; simp
  | cons d V ih =>
    intro S
    have h1 := ih (S.deed d)
    have h2 := S.deed_size d
    simp only [List.foldl_cons, List.length_cons]
    omega
theorem CA.run_size (V : List Dd) : (CA.run V).size ≤ V.length := by
  have := CA.deed_sizes V CA.none_
  unfold CA.run
  have h0 : CA.none_.size = 0 := rfl
  omega
/-- Who leads. -/
structure CA.Led (S : CA) (P : Int → Prop) : Prop where
  ent : ∀ e ∈ S.E, P e.id
  prs : ∀ p ∈ S.J, P p.1
theorem CA.Led.none_ (P : Int → Prop) : CA.none_.Led P := ⟨by simp [CA.none_], by simp [CA.none_]⟩
theorem CA.Led.ask {S : CA} {P : Int → Prop} (h : S.Led P) (k : K3) {id : Int} (hp : P id) : (S.ask k id).Led P := by
  rcases S.ways k id with ⟨_, _, _, e⟩ | ⟨_, _, _, _, e⟩ | ⟨_, x, _, _, _, _, e⟩ | ⟨_, x, hx, _, _, _, e⟩ <;> rw [e]
  · exact h
  · refine ⟨fun a ha => ?_, h.prs⟩
    rcases List.mem_append.1 ha with ha | ha
    · exact h.ent a ha
    · rw [List.mem_singleton.1 ha]; exact hp
  · exact h
  · refine ⟨h.ent, fun p hq => ?_⟩
    rcases List.mem_append.1 hq with hq | hq
    · exact h.prs p hq
    · rw [List.mem_singleton.1 hq]; exact h.ent x (CA.at_some hx).1
theorem CA.Led.deed {S : CA} {P : Int → Prop} (h : S.Led P) {d : Dd} (hp : P d.id) : (S.deed d).Led P := by
  unfold CA.deed
  split
  · exact h.ask _ hp
  · split
    · refine ⟨fun a ha => ?_, fun p hq => h.prs p (List.mem_filter.1 hq).1⟩
      obtain ⟨e, he, rfl⟩ := List.mem_map.1 ha
      rw [CE.sets_id]
      exact h.ent e he
    · exact ⟨fun a ha => h.ent a (List.mem_filter.1 ha).1, h.prs⟩
theorem CA.Led.run {P : Int → Prop} {V : List Dd} (hV : ∀ d ∈ V, P d.id) : (CA.run V).Led P := by
  have : ∀ (V : List Dd) (S : CA), S.Led P → (∀ d ∈ V, P d.id) → (V.foldl CA.deed S).Led P := by
    intro V
    induction V with
    | nil => intro S h _; exact h
    | cons d V ih => intro S h hd; exact ih _ (h.deed (hd d (by simp))) (fun x hx => hd x (by simp [hx]))
  exact this V _ (CA.Led.none_ P) hV
theorem CA.Led.joined {S : CA} {P : Int → Prop} (h : S.Led P) {z : Int} (hz : ¬ P z) : S.joined z = [] := by
  unfold CA.joined
  rw [List.filter_eq_nil_iff.2 (fun p hp => ?_)]
  · rfl
  · simp only [decide_eq_true_eq]
    rintro rfl
    exact hz (h.prs p hp)

theorem OwC.base {w w1 w2 : World} {F : Nat → Prop} {b : Nat} {S : CA} (h : OwC w1 w2 F b S) (hb : Below w.heap.size w w1) : OwC w w2 F b S := ⟨h.cch, hb.trans (h.low.mono hb.size), fun j hj => Nat.le_trans hb.size (h.lo j hj), h.hi⟩
/-- The scope 0. -/
theorem CA.ask0 (S : CA) {k : K3} (h : k.a = 0) (id : Int) : S.asks k = 1 ∧ S.tell k = zero3 ∧ S.ask k id = S := by simp [CA.asks, CA.tell, CA.ask, h]
/-- One that leads nothing settles nothing. -/
theorem CA.Led.settle {S : CA} {P : Int → Prop} (h : S.Led P) {z : Int} (hz : ¬ P z) (t : K3) : S.settle z t = S := by
  have e1 : S.E.map (fun e => e.sets z t) = S.E := by
    conv => rhs; rw [← List.map_id S.E]
    apply List.map_congr_left
    intro e he
    have : ¬ e.id = z := fun hc => hz (hc ▸ h.ent e he)
    simp [CE.sets, this]
  have e2 : S.J.filter (fun p => !decide (p.1 = z)) = S.J := List.filter_eq_self.2 (fun p hp => by
    have : ¬ p.1 = z := fun hc => hz (hc ▸ h.prs p hp)
    simp [this])
  unfold CA.settle
  rw [e1, e2]
theorem CA.Ok.closed0 {S : CA} (h : S.Ok) : S.closed 0 = 0 := by
  unfold CA.closed
  rw [List.filter_eq_nil_iff.2 (fun e he => ?_)]
  · rfl
  · simpa using h.scope e he
/-- An entry that came in: its eight cells. -/
theorem ent_flat {c : Array Value} (h : Flat [.int .i64, .int .i64, .int .i64, .int .i64, .bool, .int .i64, .int .i64, .int .i64] c.toList) : ∃ e : CE, c = aggV e.row ∧ wf3 e.k ∧ wf3 e.t := by
  obtain ⟨vs⟩ := c
  simp only at h
  obtain _ | ⟨v0, vs⟩ := vs
  · exact h.elim
  obtain ⟨⟨x0, rfl, h0⟩, h⟩ := h
  obtain _ | ⟨v1, vs⟩ := vs
  · exact h.elim
  obtain ⟨⟨x1, rfl, h1⟩, h⟩ := h
  obtain _ | ⟨v2, vs⟩ := vs
  · exact h.elim
  obtain ⟨⟨x2, rfl, h2⟩, h⟩ := h
  obtain _ | ⟨v3, vs⟩ := vs
  · exact h.elim
  obtain ⟨⟨x3, rfl, h3⟩, h⟩ := h
  obtain _ | ⟨v4, vs⟩ := vs
  · exact h.elim
  obtain ⟨⟨x4, rfl⟩, h⟩ := h
  obtain _ | ⟨v5, vs⟩ := vs
  · exact h.elim
  obtain ⟨⟨x5, rfl, h5⟩, h⟩ := h
  obtain _ | ⟨v6, vs⟩ := vs
  · exact h.elim
  obtain ⟨⟨x6, rfl, h6⟩, h⟩ := h
  obtain _ | ⟨v7, vs⟩ := vs
  · exact h.elim
  obtain ⟨⟨x7, rfl, h7⟩, h⟩ := h
  obtain _ | ⟨v8, vs⟩ := vs
  · exact ⟨⟨⟨x0, x1, x2⟩, x3, x4, ⟨x5, x6, x7⟩⟩, rfl, ⟨bounds_i64 h0, bounds_i64 h1, bounds_i64 h2⟩, ⟨bounds_i64 h5, bounds_i64 h6, bounds_i64 h7⟩⟩
  · exact h.elim
theorem row_rangeT {w : World} {b p : Nat} {e : CE} (h : w.rangeAt b p e.row) : w.rangeAt b (p + 5) (v3 e.t) := fun j u hu => by
  obtain ⟨_, _, _, _, _, h5, h6, h7⟩ := row_cells h
  match j, hu with
  | 0, hu => rw [← Option.some.inj hu]; exact h5
  | 1, hu => rw [← Option.some.inj hu]; exact h6
  | 2, hu => rw [← Option.some.inj hu]; exact h7
  | _ + 3, hu => simp [v3] at hu
theorem row_rangeK {w : World} {b p : Nat} {e : CE} (h : w.rangeAt b p e.row) : w.rangeAt b p (v3 e.k) := fun j u hu => by
  obtain ⟨h5, h6, h7, _⟩ := row_cells h
  match j, hu with
  | 0, hu => rw [← Option.some.inj hu]; exact h5
  | 1, hu => rw [← Option.some.inj hu]; exact h6
  | 2, hu => rw [← Option.some.inj hu]; exact h7
  | _ + 3, hu => simp [v3] at hu
theorem wfBig : wf64 1099511627776 := ⟨by decide, by decide⟩
theorem wfBig1 : wf64 1099511627777 := ⟨by decide, by decide⟩
theorem wfBig2 : wf64 1099511627778 := ⟨by decide, by decide⟩
abbrev zX : Obj := .cells #[.slice none 0 0, .slice none 0 0] 29
theorem do_raw (w0 : World) (F : Nat → Prop) (b : Nat) (S : CA) (X : RC) (d : Dd) (w : World) (h : OwC w0 w F b S) (hX : X.Is w w0.heap.size S) (hd : d.Fits) (hs : S.size ≤ 1000) :
    Calls Try.prog 11 #[.pointer (some ⟨b, 0, none⟩), .agg #[.slice X.A X.n X.c, .slice X.B X.m X.d], .agg #[.int .i64 d.kind, .int .i64 d.id, .int .i64 d.k.a, .int .i64 d.k.b, .int .i64 d.k.c, .int .i64 d.t.a, .int .i64 d.t.b, .int .i64 d.t.c]] w fun r w' => ∃ Y : RC, r = .returned (.tuple #[.agg #[.slice Y.A Y.n Y.c, .slice Y.B Y.m Y.d], .bool true]) ∧ Did w0 w w' F b S S d Y := do_both w0 F b S X d w h hX hd hs
/-- The first round of a loop over deeds, as a world. -/
structure Sync (w0 wr : World) (b xb : Nat) (S : CA) (X : RC) : Prop where
  own : ∃ F, OwC w0 wr F b S
  ref : X.Is wr w0.heap.size S
  blk : wr.heap[xb]? = some (vobj 29 X.vals)
set_option maxRecDepth 100000 in
set_option maxHeartbeats 4000000 in
theorem ran_any (a : Option Addr) (l kk : Nat) (V : List Dd) (w : World) (hr : RowR drec w a l V) (hV : ∀ d ∈ V, d.Fits) :
    Calls Try.prog 13 #[.slice a l kk] w fun r w' => ∃ b, r = .returned (.pointer (some ⟨b, 0, none⟩)) ∧ ∃ F, OwC w w' F b (CA.run (V.take 100)) := by
  have hml := hr.2.1
  unfold maxLen at hml
  obtain ⟨N, hN⟩ : ∃ N, (if 100 < l then 100 else l) = N := ⟨_, rfl⟩
  have hN' : N ≤ l ∧ N ≤ 100 ∧ (N < 100 → N = l) := by rw [← hN]; split <;> omega
  obtain ⟨fs, hu⟩ := undX
  have HU := Lib.hid hu
  have HR := Lib.hid hr
  have HF := Lib.hid hV
  have LEN := Lib.hid hr.1
  clear hr hV hu hN
  go_enter Try.func13, Try.ntmps13
  go_wp2_with (first
    | (go_at_call 10; refine (oc_new w w (Below.refl _ _)).mono ?_; rintro r w1 ⟨b, rfl, o1, b1⟩; have O1 := Lib.hid o1; obtain ⟨xb, hxb⟩ : ∃ xb, w1.heap.size = xb := ⟨_, rfl⟩; have XW : Hid (w.heap.size ≤ xb) := Lib.hid (by have := b1.size; omega); clear o1 b1)
    | (refine wpList_build_agg rfl 29 #[] rfl RC.zero.vals (buildX _) ?_)
    | (refine wpList_alloc_agg rfl 29 rfl xb hxb RC.zero.vals (allocX _) ?_; intro w2 h2 l2 t2; have O2 := Lib.hid (O1.out.below (show Below w1.heap.size w1 w2 by rw [hxb]; exact l2)); have H2 := Lib.hid h2; clear h2 l2 t2)
    | (refine wpList_store_agg rfl 29 _ _ rfl xb RC.zero.vals RC.zero.vals rfl rfl ?hz rfl (sizeX _) (RC.ones_vals _) ?_; (case hz => exact H2.out); intro w3 h3 f3 t3; have O3 := Lib.hid (O2.out.beside H2.out (by decide) f3 XW.out); have H3 := Lib.hid h3; clear h3 f3 t3))
  clear hxb
  have hwx : w.heap.size ≤ xb := XW.out
  go_loopg [5] N (fun q v5 wr => ∃ (i : Nat) (X : RC), i + q = N ∧ v5 = .int .i64 i ∧ Sync w wr b xb (CA.run (V.take i)) X)
  case atStart => exact ⟨0, RC.zero, by omega, rfl, ⟨_, O3.out⟩, RC.zero_is _ _, H3.out⟩
  case round =>
    obtain ⟨i, X, hq, rfl, hsy⟩ := hrel
    obtain ⟨⟨F, how⟩, hi, hx⟩ := hsy
    have G := Lib.hid hq
    have OW := Lib.hid how
    have IX := Lib.hid hi
    have HX := Lib.hid hx
    obtain ⟨S, hS⟩ : ∃ S, CA.run (V.take i) = S := ⟨_, rfl⟩
    rw [hS] at OW IX
    have SZ : Hid (S.size ≤ 1000) := Lib.hid (by have := CA.run_size (V.take i); rw [hS, List.length_take] at this; omega)
    have HS := Lib.hid hS
    clear hq how hx hi O3 H3 hS
    by_cases hin : i < N
    · have hi1 : (i : Int) < l := by omega
      have hi2 : (i : Int) < 100 := by omega
      obtain ⟨blk, off, d, rfl, hd, hrg⟩ := HR.out.dd (i := i) (by omega)
      have FD : Hid d.Fits := Lib.hid (HF.out d (List.mem_of_getElem? hd))
      obtain ⟨q0, q1, q2, q3, q4, q5, q6, q7⟩ := dd_cells hrg
      have HRX : Hid (∀ v, v.heap[xb]? = some (vobj 29 X.vals) → Below w.heap.size w v → (v.cell? ⟨xb, 0, none⟩ = some (.slice X.A X.n X.c) ∧ v.cell? ⟨xb, 1, none⟩ = some (.slice X.B X.m X.d)) ∧
          v.cell? ⟨blk, off + i * 8, none⟩ = some (.int .i64 d.kind) ∧ v.cell? ⟨blk, off + i * 8 + 1, none⟩ = some (.int .i64 d.id) ∧ v.cell? ⟨blk, off + i * 8 + 2, none⟩ = some (.int .i64 d.k.a) ∧ v.cell? ⟨blk, off + i * 8 + 3, none⟩ = some (.int .i64 d.k.b) ∧ v.cell? ⟨blk, off + i * 8 + 4, none⟩ = some (.int .i64 d.k.c) ∧ v.cell? ⟨blk, off + i * 8 + 5, none⟩ = some (.int .i64 d.t.a) ∧ v.cell? ⟨blk, off + i * 8 + 6, none⟩ = some (.int .i64 d.t.b) ∧ v.cell? ⟨blk, off + i * 8 + 7, none⟩ = some (.int .i64 d.t.c)) :=
        Lib.hid (fun v hv hb => ⟨RC.cells_vals hv, cell_later hb q0, cell_later hb q1, cell_later hb q2, cell_later hb q3, cell_later hb q4, cell_later hb q5, cell_later hb q6, cell_later hb q7⟩)
      have NX : Hid (CA.run (V.take (i + 1)) = S.deed d) := Lib.hid (by rw [CA.run_next hd, HS.out])
      have hwl := OW.out.low.size
      have hxl := heap_lt HX.out
      have hxn : xb ≠ wr.heap.size := by omega
      clear q0 q1 q2 q3 q4 q5 q6 q7 hd hrg
      go_wp2
      go_cut [6, 7] (fun vy vs wq => ∃ (yb : Nat) (Y : RC), vy = .pointer (some ⟨yb, 0, none⟩) ∧ vs = .bool true ∧ w.heap.size ≤ yb ∧ (∃ F, OwC w wq F b (S.deed d)) ∧ Y.Is wq w.heap.size (S.deed d) ∧ wq.heap[xb]? = some (vobj 29 X.vals) ∧ wq.heap[yb]? = some (vobj 29 Y.vals))
      case first =>
        go_region_held3 (fun v => (v.cell? ⟨xb, 0, none⟩ = some (.slice X.A X.n X.c) ∧ v.cell? ⟨xb, 1, none⟩ = some (.slice X.B X.m X.d)) ∧
          v.cell? ⟨blk, off + i * 8, none⟩ = some (.int .i64 d.kind) ∧ v.cell? ⟨blk, off + i * 8 + 1, none⟩ = some (.int .i64 d.id) ∧ v.cell? ⟨blk, off + i * 8 + 2, none⟩ = some (.int .i64 d.k.a) ∧ v.cell? ⟨blk, off + i * 8 + 3, none⟩ = some (.int .i64 d.k.b) ∧ v.cell? ⟨blk, off + i * 8 + 4, none⟩ = some (.int .i64 d.k.c) ∧ v.cell? ⟨blk, off + i * 8 + 5, none⟩ = some (.int .i64 d.t.a) ∧ v.cell? ⟨blk, off + i * 8 + 6, none⟩ = some (.int .i64 d.t.b) ∧ v.cell? ⟨blk, off + i * 8 + 7, none⟩ = some (.int .i64 d.t.c))
          (first
            | with_reducible exact HRX.out _ x5 o5.low
            | with_reducible exact HRX.out _ (kb_alloc x5 _) (o5.below (below_alloc _ _)).low
            | (have hy5 := y5; exact HRX.out _ (((sets2_frm w5 wr.heap.size _ _).block xb (heap_lt x5) hxn).trans x5) (o5.beside y5 (by decide) (sets2_frm w5 wr.heap.size _ _) hwl).low)
            | exact HRX.out (World.drew _) HX.out (OW.out.ali (drew_ali _)).low
            | exact HRX.out (World.drew _) (kb_alloc HX.out _) ((OW.out.below (below_alloc _ _)).ali (drew_ali _)).low)
          (first
            | (go_at_call 11; refine (do_raw w F b S X d _ (OW.out.ali (drew_ali _)) (IX.out.ali (drew_ali _)) FD.out SZ.out).mono ?_; rintro r w5 ⟨Y, rfl, ⟨⟨F', o5, _⟩, i5, f5⟩⟩; have I5 := Lib.hid i5; have x5 : w5.heap[xb]? = some (vobj 29 X.vals) := foot_kept f5 (j := xb) HX.out (by decide); clear i5 f5)
            | (go_at_call 11; refine (do_raw w F b S X d _ ((OW.out.below (below_alloc _ _)).ali (drew_ali _)) ((IX.out.below (below_alloc _ _)).ali (drew_ali _)) FD.out SZ.out).mono ?_; rintro r w5 ⟨Y, rfl, ⟨⟨F', o5, _⟩, i5, f5⟩⟩; have I5 := Lib.hid i5; have x5 : w5.heap[xb]? = some (vobj 29 X.vals) := foot_kept f5 (j := xb) (kb_alloc HX.out _) (by decide); have y5 : w5.heap[wr.heap.size]? = some (vobj 29 RC.zero.vals) := foot_kept f5 (j := wr.heap.size) (heap_alloc_at wr _) (by decide); obtain ⟨ya, yc⟩ := RC.cells_vals y5; have yf0 := vobj_frozen y5 0; have yf1 := vobj_frozen y5 1; clear i5 f5))
        all_goals (go_wp2; go_meet)
        · exact ⟨w5.heap.size, Y, rfl, rfl, o5.low.size, ⟨_, o5.below (below_alloc _ _)⟩, I5.out.below (below_alloc _ _), kb_alloc x5 _, heap_alloc_at _ _⟩
        · exact ⟨wr.heap.size, Y, rfl, rfl, hwl, ⟨_, o5.beside y5 (by decide) (sets2_frm w5 wr.heap.size _ _) hwl⟩, I5.out.beside y5 (by decide) (sets2_frm w5 wr.heap.size _ _), ((sets2_frm w5 wr.heap.size _ _).block xb (heap_lt x5) hxn).trans x5, sets2 y5 Y⟩
      case rest =>
        obtain ⟨yb, Y, rfl, rfl, hyb, ⟨F', o6⟩, i6, x6, y6⟩ := hcut
        have O6 := Lib.hid o6
        have I6 := Lib.hid i6
        have X6 := Lib.hid x6
        have Y6 := Lib.hid y6
        clear o6 i6 x6 y6 HRX
        go_wp2_with (first
          | (refine wpList_load_agg rfl 29 _ rfl yb rfl Y.vals ?hy _ HU.out rfl (sizeX _) ?_; (case hy => exact Y6.out))
          | (refine wpList_store_agg rfl 29 _ _ rfl xb X.vals Y.vals rfl rfl ?hz rfl (sizeX _) (RC.ones_vals _) ?_; (case hz => exact X6.out); intro w7 h7 f7 t7; have X7 := Lib.hid h7; have O7 := Lib.hid (O6.out.beside X6.out (by decide) f7 hwx); have I7 := Lib.hid (I6.out.beside X6.out (by decide) f7); clear h7 f7 t7))
        go_roundg (N - (i + 1))
        case measure => have := G.out; omega
        case rel => exact ⟨i + 1, Y, by omega, by simp, ⟨_, by rw [NX.out]; exact O7.out⟩, by rw [NX.out]; exact I7.out, X7.out⟩
    · have hfin : S = CA.run (V.take 100) := by
        rw [← HS.out]
        by_cases hl : i < 100
        · have hv : V.length = l := LEN.out
          have := hN'.2.2 (by omega)
          rw [List.take_of_length_le (by omega), List.take_of_length_le (by omega)]
        · rw [show i = 100 by have := G.out; omega]
      rw [hfin] at OW
      have FIN := Lib.hid OW.out
      clear hfin HX IX HS SZ
      by_cases hl : i < l
      · have hi1 : (i : Int) < l := by omega
        have hi2 : ¬ (i : Int) < 100 := by omega
        go_wp2
        go_ret
        exact ⟨b, rfl, F, FIN.out⟩
      · have hi1 : ¬ (i : Int) < l := by omega
        go_wp2
        go_ret
        exact ⟨b, rfl, F, FIN.out⟩
end Go.Proofs.Ytlphahkmibhidaa
