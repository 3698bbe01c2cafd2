/- Contracts of porpoiselaw12's helpers: key, told; a cache that a call made; deeds. -/
import Derived.Test.YtlphahkmibhidaaCacJoin
import Derived.Test.YtlphahkmibhidaaRef12
import Derived.Test.YtlphahkmibhidaaSameInts
import Derived.Test.YtlphahkmibhidaaLater
namespace Go.Proofs.Ytlphahkmibhidaa
set_option linter.unusedVariables false
open Go.ChangeShapes Go.WideShapes Go.ChangeAt Go.RowKit

set_option maxRecDepth 100000 in
theorem key_any (k : K3) (w : World) : Calls Try.prog 16 #[.agg (aggV (v3 k))] w fun r w' => r = .returned (.agg (aggV (v3 k))) ∧ Below w.heap.size w w' := by
  obtain ⟨g, hg⟩ : ∃ g, w.heap.size = g := ⟨_, rfl⟩
  go_enter Try.func16, Try.ntmps16
  go_wp2_with (first
    | (refine wpList_box_agg rfl 33 _ rfl g hg (v3 k) rfl ?_; intro w1 h1 l1 t1)
    | (refine wpList_alloc_agg rfl 47 rfl (g + 1) t1 (v3 zero3) (allocK _) ?_; intro w2 h2 l2 t2; obtain ⟨d0, d1, d2⟩ := cells3 ((l2.block g (by omega)).trans h1))
    | (refine wpList_store_agg rfl 47 _ _ rfl (g + 1) (v3 zero3) (v3 k) rfl rfl ?hz rfl (sizeK _) (v3_ones _) ?_; (case hz => exact h2); intro w3 h3 f3 t3))
  refine bodyPost_ret (v := .agg (aggV (v3 k))) (results_agg Try.results16 rfl (loadK h3)) rfl ⟨rfl, ?_⟩
  subst hg
  exact (l1.trans (l2.mono (by omega))).trans (f3.below (by omega) (fun j hj e => by have e' : j = w.heap.size + 1 := e; omega))
set_option maxRecDepth 100000 in
theorem told_any (k : K3) (w : World) : Calls Try.prog 18 #[.agg (aggV (v3 k))] w fun r w' => r = .returned (.agg (aggV (v3 k))) ∧ Below w.heap.size w w' := by
  obtain ⟨g, hg⟩ : ∃ g, w.heap.size = g := ⟨_, rfl⟩
  go_enter Try.func18, Try.ntmps18
  go_wp2_with (first
    | (refine wpList_box_agg rfl 35 _ rfl g hg (v3 k) rfl ?_; intro w1 h1 l1 t1)
    | (refine wpList_alloc_agg rfl 44 rfl (g + 1) t1 (v3 zero3) (allocT _) ?_; intro w2 h2 l2 t2; obtain ⟨d0, d1, d2⟩ := cells3 ((l2.block g (by omega)).trans h1))
    | (refine wpList_store_agg rfl 44 _ _ rfl (g + 1) (v3 zero3) (v3 k) rfl rfl ?hz rfl (sizeT _) (v3_ones _) ?_; (case hz => exact h2); intro w3 h3 f3 t3))
  refine bodyPost_ret (v := .agg (aggV (v3 k))) (results_agg Try.results18 rfl (loadT h3)) rfl ⟨rfl, ?_⟩
  subst hg
  exact (l1.trans (l2.mono (by omega))).trans (f3.below (by omega) (fun j hj e => by have e' : j = w.heap.size + 1 := e; omega))

/-- A cache that was made since w0; of what was there ahead of it nothing has turned. -/
structure OwC (w0 w : World) (F : Nat → Prop) (b : Nat) (S : CA) : Prop where
  cch : Cch w F b S
  low : Below w0.heap.size w0 w
  lo : ∀ j, F j → w0.heap.size ≤ j
  hi : ∀ j, w.heap.size ≤ j → F j
section
variable {w0 w w' : World} {F F' G : Nat → Prop} {b : Nat} {S S' : CA} {X : RC}
theorem OwC.below (h : OwC w0 w F b S) (hb : Below w.heap.size w w') : OwC w0 w' F b S := ⟨h.cch.below hb, h.low.trans (hb.mono h.low.size), h.lo, fun j hj => h.hi j (Nat.le_trans hb.size hj)⟩
theorem OwC.ali (h : OwC w0 w F b S) (ha : Ali w w') : OwC w0 w' F b S := h.below (ali_below ha)
theorem OwC.after (h : OwC w0 w F b S) (hf : Frm (Foot w F) w w') (hb : Cch w' F b S') : OwC w0 w' F b S' := ⟨hb, h.low.trans (foot_below hf h.low.size h.lo), h.lo, fun j hj => h.hi j (Nat.le_trans hf.size hj)⟩
theorem OwC.beside (h : OwC w0 w F b S) {g : Nat} {cs : Array Value} {t : TypeId} {z : Nat × Nat} (hg : w.heap[g]? = some (.cells cs t z)) (ht : ¬ Ours t) (hf : Frm (· = g) w w') (hw : w0.heap.size ≤ g) : OwC w0 w' F b S :=
  ⟨h.cch.beside hg ht hf, h.low.trans (hf.below h.low.size (fun j hj e => by have e' : j = g := e; omega)), h.lo, fun j hj => h.hi j (Nat.le_trans hf.size hj)⟩
/-- Blocks that are none of the cache's may turn. -/
theorem OwC.frm (h : OwC w0 w F b S) (hf : Frm G w w') (hG : ∀ j, j < w.heap.size → G j → ¬ F j) (hw : ∀ j, G j → w0.heap.size ≤ j) : OwC w0 w' F b S :=
  ⟨h.cch.frm hf hG, h.low.trans (hf.below h.low.size (fun j hj e => by have := hw j e; omega)), h.lo, fun j hj => h.hi j (Nat.le_trans hf.size hj)⟩
theorem OwC.less (h : OwC w0 w F b S) (h1 : ∀ j, j < w.heap.size → F j → F' j) (h2 : ∀ j, F' j → w0.heap.size ≤ j) (h3 : ∀ j, w.heap.size ≤ j → F' j) : OwC w0 w F' b S := ⟨h.cch.mono h1, h.low, h2, h3⟩
theorem OwC.ok (h : OwC w0 w F b S) : S.Ok := h.cch.ok
/-- The document's cache stays, whatever a cache does. -/
theorem RC.Is.foot {base : Nat} (h : X.Is w base S') (hf : Frm (Foot w F) w w') : X.Is w' base S' := h.frm hf (fun j hj cs => ⟨fun hc => by
    rcases hj.2 _ _ _ hc with e | e
    · exact absurd e (by decide)
    · exact absurd e (by decide), fun hc => by
    rcases hj.2 _ _ _ hc with e | e
    · exact absurd e (by decide)
    · exact absurd e (by decide)⟩)
theorem Ints.raise {base : Nat} {v : Value} {zs : List Int} (h : Ints w 0 v zs) (hb : ∀ g, v.ownBlock = some g → base ≤ g) : Ints w base v zs := by
  refine ⟨⟨h.1.1, ?_⟩, h.2⟩
  rcases h.1.2 with h0 | ⟨g, cap, cur, hv, hb', hr⟩
  · exact .inl h0
  · exact .inr ⟨g, cap, cur, hv, hb g (by rw [hv]; rfl), hr⟩
end
section
variable (w0 : World) (F : Nat → Prop) (b : Nat) (S : CA) (w : World)
theorem oc_new (h : Below w0.heap.size w0 w) : Calls Try.prog 10 #[] w fun r w' => ∃ b, r = .returned (.pointer (some ⟨b, 0, none⟩)) ∧ OwC w0 w' (w.heap.size ≤ ·) b CA.none_ ∧ Below w.heap.size w w' := by
  refine (new_cch w).mono ?_
  rintro r w' ⟨b, rfl, hc, hb⟩
  exact ⟨b, rfl, ⟨hc, h.trans (hb.mono h.size), fun j hj => Nat.le_trans h.size hj, fun j hj => Nat.le_trans hb.size hj⟩, hb⟩
/-- Ask, its answers as parameters. -/
theorem oc_ask (h : OwC w0 w F b S) (k : K3) (id : Int) (hk : wf3 k) (hid : wf64 id) (hs : S.size ≤ 1000) (n : Int) (t : K3) (S' : CA) (h1 : S.asks k = n) (h2 : S.tell k = t) (h3 : S.ask k id = S') :
    Calls Try.prog 15 #[.pointer (some ⟨b, 0, none⟩), .agg (aggV (v3 k)), .int .i64 id] w fun r w' => r = .returned (.tuple #[.int .i64 n, .agg (aggV (v3 t))]) ∧ OwC w0 w' F b S' ∧ Frm (Foot w F) w w' := by
  subst h1 h2 h3
  refine (ask_cch F b S k id w h.cch h.hi hk hid hs).mono ?_
  rintro r w' ⟨rfl, hc, hf⟩
  exact ⟨rfl, h.after hf hc, hf⟩
theorem oc_settle (h : OwC w0 w F b S) (id : Int) (t : K3) (hid : wf64 id) (ht : wf3 t) (zs : List Int) (S' : CA) (h1 : S.joined id = zs) (h2 : S.settle id t = S') :
    Calls Try.prog 17 #[.pointer (some ⟨b, 0, none⟩), .int .i64 id, .agg (aggV (v3 t))] w fun r w' => ∃ A n c, r = .returned (.slice A n c) ∧ Ints w' w0.heap.size (.slice A n c) zs ∧ OwC w0 w' (fun j => F j ∧ (Value.slice A n c).ownBlock ≠ some j) b S' ∧ Frm (Foot w F) w w' := by
  subst h1 h2
  refine (settle_cch F b S id t w h.cch hid ht).mono ?_
  rintro r w' ⟨v, rfl, hi, hv, hc, hf⟩
  obtain ⟨A, n, c, rfl, _, _, _, _⟩ := own_row' hi
  refine ⟨A, n, c, rfl, hi.raise (fun g hg => h.lo g (hv g hg)), ⟨hc, h.low.trans (foot_below hf h.low.size h.lo), fun j hj => h.lo j hj.1, fun j hj => ⟨h.hi j (Nat.le_trans hf.size hj), fun e => ?_⟩⟩, hf⟩
  have := hi.lt_ e
  omega
theorem oc_close (h : OwC w0 w F b S) (s : Int) (hs : S.size ≤ 1000) (n : Nat) (S' : CA) (h1 : S.closed s = n) (h2 : S.close s = S') :
    Calls Try.prog 14 #[.pointer (some ⟨b, 0, none⟩), .int .i64 s] w fun r w' => r = .returned (.int .i64 n) ∧ OwC w0 w' F b S' ∧ Frm (Foot w F) w w' := by
  subst h1 h2
  refine (close_cch F b S s w h.cch hs).mono ?_
  rintro r w' ⟨rfl, hc, hf⟩
  exact ⟨rfl, h.after hf hc, hf⟩
theorem oc_len (h : OwC w0 w F b S) (n : Nat) (h1 : S.E.length = n) : Calls Try.prog 12 #[.pointer (some ⟨b, 0, none⟩)] w fun r w' => r = .returned (.int .i64 n) ∧ w = w' := by
  subst h1
  exact len_cch F b S w h.cch
end

/-- A row that is not the cache's any more stays. -/
theorem ints_foot {w w' : World} {F : Nat → Prop} {base : Nat} {v : Value} {zs : List Int} (hi : Ints w base v zs) (hf : Frm (Foot w F) w w') (hn : ∀ j, F j → v.ownBlock ≠ some j) : Ints w' base v zs := hi.apart (fun g hg => foot_far hf (hi.lt_ hg) (fun h => hn g h hg))
/-- Two rows of the same numbers. -/
theorem same_yes2 (A B : Option Addr) (n c m d base : Nat) (zs : List Int) (w : World) (ha : Ints w base (.slice A n c) zs) (hb : Row .i64 w B m zs) (hl : zs.length = m) : Calls Try.prog 19 #[.slice A n c, .slice B m d] w fun r w' => r = .returned (.bool true) ∧ Ali w w' := by
  have := same_any A B n c m d zs zs w ha.row.1 ha.row.2.1 hb hl
  rwa [show decide (zs = zs) = true by simp] at this

/-! ### deeds -/
/-- Something that is done. -/
structure Dd where
  kind : Int
  id : Int
  k : K3
  t : K3
def Dd.vals (d : Dd) : List Value := [.int .i64 d.kind, .int .i64 d.id, .int .i64 d.k.a, .int .i64 d.k.b, .int .i64 d.k.c, .int .i64 d.t.a, .int .i64 d.t.b, .int .i64 d.t.c]
structure Dd.Fits (d : Dd) : Prop where
  kind : wf64 d.kind
  id : wf64 d.id
  k : wf3 d.k
  t : wf3 d.t
/-- What a deed makes of a cache; what it answers of two. -/
def CA.deed (S : CA) (d : Dd) : CA := if d.kind = 1 then S.ask d.k d.id else if d.kind = 2 then S.settle d.id d.t else S.close d.k.a
def CA.alike (S T : CA) (d : Dd) : Bool := if d.kind = 1 then (decide (S.asks d.k = T.asks d.k) && decide (S.tell d.k = T.tell d.k)) else if d.kind = 2 then decide (S.joined d.id = T.joined d.id) else decide (S.closed d.k.a = T.closed d.k.a)
theorem CA.alike_self (S : CA) (d : Dd) : S.alike S d = true := by unfold CA.alike; split <;> (try split) <;> simp
theorem CA.deed_size (S : CA) (d : Dd) : (S.deed d).size ≤ S.size + 1 := by
  unfold CA.deed
  split
  · exact S.ask_size _ _
  · split
    · have := S.settle_size d.id d.t; omega
    · have := S.close_size d.k.a; omega
theorem Dd.range {w : World} {g : Nat} {ty : TypeId} {d : Dd} (h : w.heap[g]? = some (vobj ty d.vals)) : w.cell? ⟨g, 0, none⟩ = some (.int .i64 d.kind) ∧ w.cell? ⟨g, 1, none⟩ = some (.int .i64 d.id) ∧ w.cell? ⟨g, 2, none⟩ = some (.int .i64 d.k.a) ∧ w.cell? ⟨g, 3, none⟩ = some (.int .i64 d.k.b) ∧ w.cell? ⟨g, 4, none⟩ = some (.int .i64 d.k.c) ∧ w.cell? ⟨g, 5, none⟩ = some (.int .i64 d.t.a) ∧ w.cell? ⟨g, 6, none⟩ = some (.int .i64 d.t.b) ∧ w.cell? ⟨g, 7, none⟩ = some (.int .i64 d.t.c) :=
  ⟨vobj_cell h rfl, vobj_cell h rfl, vobj_cell h rfl, vobj_cell h rfl, vobj_cell h rfl, vobj_cell h rfl, vobj_cell h rfl, vobj_cell h rfl⟩
theorem Dd.rangeK {w : World} {g : Nat} {ty : TypeId} {d : Dd} (h : w.heap[g]? = some (vobj ty d.vals)) : w.rangeAt g 2 (v3 d.k) := fun j u hu => by
  obtain ⟨_, _, h2, h3, h4, _⟩ := Dd.range h
  match j, hu with
  | 0, hu => rw [← Option.some.inj hu]; exact h2
  | 1, hu => rw [← Option.some.inj hu]; exact h3
  | 2, hu => rw [← Option.some.inj hu]; exact h4
  | _ + 3, hu => simp [v3] at hu
theorem Dd.rangeT {w : World} {g : Nat} {ty : TypeId} {d : Dd} (h : w.heap[g]? = some (vobj ty d.vals)) : w.rangeAt g 5 (v3 d.t) := fun j u hu => by
  obtain ⟨_, _, _, _, _, h5, h6, h7⟩ := Dd.range h
  match j, hu with
  | 0, hu => rw [← Option.some.inj hu]; exact h5
  | 1, hu => rw [← Option.some.inj hu]; exact h6
  | 2, hu => rw [← Option.some.inj hu]; exact h7
  | _ + 3, hu => simp [v3] at hu
theorem sets3 {w : World} {g : Nat} {ty : TypeId} {x : K3} (h : w.heap[g]? = some (vobj ty (v3 x))) (y : K3) : (((w.setCell ⟨g, 0, none⟩ (.int .i64 y.a)).setCell ⟨g, 1, none⟩ (.int .i64 y.b)).setCell ⟨g, 2, none⟩ (.int .i64 y.c)).heap[g]? = some (vobj ty (v3 y)) := by
  rw [vobj_set (vobj_set (vobj_set h 0 _) 1 _) 2 _]; rfl
theorem sets3_frm (w : World) (g : Nat) (a b c : Value) : Frm (· = g) w (((w.setCell ⟨g, 0, none⟩ a).setCell ⟨g, 1, none⟩ b).setCell ⟨g, 2, none⟩ c) :=
  (((Frm.refl (· = g) w).set (p := ⟨g, 0, none⟩) rfl a).set (p := ⟨g, 1, none⟩) rfl b).set (p := ⟨g, 2, none⟩) rfl c
theorem sets2 {w : World} {g : Nat} {x : RC} (h : w.heap[g]? = some (vobj 29 x.vals)) (y : RC) : ((w.setCell ⟨g, 0, none⟩ (.slice y.A y.n y.c)).setCell ⟨g, 1, none⟩ (.slice y.B y.m y.d)).heap[g]? = some (vobj 29 y.vals) := by
  rw [vobj_set (vobj_set h 0 _) 1 _]; rfl
theorem sets2_frm (w : World) (g : Nat) (a b : Value) : Frm (· = g) w ((w.setCell ⟨g, 0, none⟩ a).setCell ⟨g, 1, none⟩ b) :=
  ((Frm.refl (· = g) w).set (p := ⟨g, 0, none⟩) rfl a).set (p := ⟨g, 1, none⟩) rfl b
end Go.Proofs.Ytlphahkmibhidaa
