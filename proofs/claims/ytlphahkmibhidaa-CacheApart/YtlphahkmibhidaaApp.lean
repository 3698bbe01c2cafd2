/- append of integers onto a row that the call itself made, the source nil or not, in whatever order a region draws. -/
import Derived.Test.YtlphahkmibhidaaKit
import Derived.Maps.OwnRows
import Derived.Laws.OwnMore
import Derived.Deep.RegionLaw
import Derived.Deep.DeepCutAuto
import Derived.Handy
namespace Go.Proofs.Ytlphahkmibhidaa
set_option linter.unusedVariables false
open Go.ChangeShapes Go.WideShapes Go.ChangeAt Go.RowKit Go.Deep
section
variable {P : Program} {w : World} {base : Nat} {t ty e : TypeId} {q : IntKind} {v : Value} {zs us : List Int} {A : Option Addr} {m c bytes : Nat}

/-- Integers of a slice that lie at an address, or of none. -/
theorem Row.cells {k : IntKind} (h : Row k w A m us) (hl : us.length = m) {ad : Addr} (hA : A = some ad) : ∀ j u, (us.map (Value.int k))[j]? = some u → w.cell? (ad.add j) = some u := by
  intro j u hu
  simp only [List.getElem?_map, Option.map_eq_some_iff] at hu
  obtain ⟨n, hn, rfl⟩ := hu
  have hj := (List.getElem?_eq_some_iff.1 hn).1
  obtain ⟨_, _, hc, _⟩ := h
  rcases hc with hc | ⟨b, off, e, hc⟩
  · omega
  · rw [hA] at e
    injection e with e
    subst e
    rw [add_plain, hc j hj]
    simp [List.getD, hn]

theorem app_ints {i : TypeInfo} {z : Value} (ht : P.underlying t = some (.slice e)) (hi : P.info? e = some i) (hz : i.zero = some z) (hs : i.size = 1) (hb : i.bytes = bytes) (hc : z.cells.size = 1)
    (own : w.ownsInts base e q v zs) (src : Row q w A m us) (hl : us.length = m) (hle : zs.length + m ≤ 1048576) (hby : bytes ≤ 64) (hbase : base ≤ w.heap.size) :
    ∃ v' w', (Builtin.append_ #[t, t] ty #[v, .slice A m c]).run P w = .ok v' w' ∧ w'.ownsInts base e q v' (zs ++ us) ∧ w.grownBy w' v.ownBlock ∧ (v'.ownBlock = v.ownBlock ∨ v'.ownBlock = some w.heap.size) := by
  have wf : ∀ x ∈ zs ++ us, (Lit.int q x).wf = true := fun x hx => (List.mem_append.1 hx).elim (own.2 x) (src.2.2.2 x)
  cases A with
  | none =>
    have hm : m = 0 := by
      rcases src.2.2.1 with h | ⟨_, _, h, _⟩
      · exact h
      · cases h
    subst hm
    have hu : us = [] := List.eq_nil_of_length_eq_zero hl
    subst hu
    refine ⟨v, w, ?_, by simpa using own, ⟨rfl, rfl, rfl, Nat.le_refl _, fun _ _ _ => rfl⟩, .inl rfl⟩
    rcases own.1.2 with ⟨rfl, h0⟩ | ⟨g, cap, cur, rfl, _, _, hnc, _⟩
    · simp [Builtin.append_, run_underlying ht, sizeOf, typeInfo, hi, Builtin.lenOf, Builtin.firstCells]
    · simp [Builtin.append_, run_underlying ht, sizeOf, typeInfo, hi, Builtin.lenOf, Builtin.firstCells, hnc, storeCells]
  | some ad =>
    have hbig : (zs.length + m) * bytes ≤ 140737488355328 := by
      have := Nat.mul_le_mul hle hby
      omega
    obtain ⟨v', w', hr, h2, h3, _, h5⟩ := run_append_own_at (P := P) w base t ty e i z 1 bytes ht hi hz hs hb hc (by decide) v zs.length (zs.map (Value.int q)) own.1 ad m c (us.map (Value.int q)) (by simp [hl]) (src.cells hl rfl)
      (by intro u hu; simp at hu; obtain ⟨n, _, rfl⟩ := hu; rfl) (by unfold maxLen; omega) hbig hbase
    exact ⟨v', w', hr, ⟨by simpa [hl] using h2, wf⟩, h3, h5⟩

/-- The same, as one step of a region that draws its order. -/
theorem app_step {ops : Array Oper} {o : Oper} {a : Act} {K : Act → World → Prop} {Q : Exit → Act → World → Prop} {E : Prop} (hg : o.guard = none) (s x : Operand)
    (ho : o.op = .call { callee := .builtin .append, args := #[s, x], argTypes := #[t, t] }) {i : TypeInfo} {z : Value} (ht : P.underlying t = some (.slice e)) (hi : P.info? e = some i) (hz : i.zero = some z) (hs : i.size = 1) (hb : i.bytes = bytes) (hc : z.cells.size = 1) (hby : bytes ≤ 64)
    (hsv : a.eval s = v) (hxv : a.eval x = .slice A m c) (own : w.ownsInts base e q v zs) (src : Row q w A m us) (hl : us.length = m) (hle : zs.length + m ≤ 1048576) (hbase : base ≤ w.heap.size)
    (h : ∀ v' w', w'.ownsInts base e q v' (zs ++ us) → w.grownBy w' v.ownBlock → (v'.ownBlock = v.ownBlock ∨ v'.ownBlock = some w.heap.size) → K (a.put o.dst v') w') :
    if Region.wanted o (yielded ops a.tmps) = true then Oper.wp P o a w K Q else E := by
  rw [if_pos (show Region.wanted o (yielded ops a.tmps) = true by simp [Region.wanted, hg])]
  obtain ⟨v', w', hr, h2, h3, h4⟩ := app_ints (ty := o.type) (c := c) ht hi hz hs hb hc own src hl hle hby hbase
  unfold Oper.wp execOp
  simp only [ho, resolve, invoke, builtin, Sem.run_bind, Sem.run_pure, Result.andThen_ok, List.map_toArray, List.map_cons, List.map_nil, hsv, hxv, hr]
  exact h v' w' h2 h3 h4
/-- A block of the heap. -/
def Has (w : World) (g : Nat) (o : Obj) : Prop := w.heap[g]? = some o
theorem Has.drew {g : Nat} {o : Obj} (h : Has w g o) : Has w.drew g o := h
theorem Has.new (w : World) {g : Nat} {o : Obj} (h : g = w.heap.size) : Has (w.alloc o) g o := by subst h; exact heap_alloc_new w o
theorem Has.alloc {g : Nat} {o : Obj} (h : Has w g o) (o' : Obj) : Has (w.alloc o') g o := by
  have hlt : g < w.heap.size := by
    rcases Nat.lt_or_ge g w.heap.size with hlt | hge
    · exact hlt
    · unfold Has at h; rw [Array.getElem?_eq_none hge] at h; cases h
  exact (heap_alloc_old w o' hlt).trans h
/-- A new block of integers, as a slice of all of it. -/
theorem own_new {g : Nat} {cs : Array Value} (hb : Has w g (.cells cs e)) (hg : base ≤ g) (hcs : cs.toList = zs.map (Value.int q)) (hl : zs.length ≤ 1048576) (hw : ∀ z ∈ zs, (Lit.int q z).wf = true) {n : Nat} (hn : zs.length = n) :
    w.ownsInts base e q (.slice (some ⟨g, 0, none⟩) n n) zs := by
  subst hn
  have hs : cs.size = zs.length := by rw [← Array.length_toList, hcs, List.length_map]
  exact ⟨⟨by simp, .inr ⟨g, zs.length, cs, rfl, hg, hb, Nat.le_refl _, by unfold maxLen; omega, by omega, by rw [hcs, List.take_of_length_le (by simp)]⟩⟩, hw⟩
theorem own_row (h : w.ownsInts base e q v zs) : ∃ A c, v = .slice A zs.length c ∧ Row q w A zs.length zs ∧ zs.length ≤ c ∧ c ≤ maxLen := by
  rcases h.1.2 with ⟨rfl, h0⟩ | ⟨g, cap, cur, rfl, hg, hh, hnc, hcm, hcs, ht⟩
  · have : zs = [] := List.eq_nil_of_length_eq_zero h0
    subst this
    exact ⟨none, 0, rfl, ⟨Nat.le_refl _, by decide, .inl rfl, by simp⟩, by simp, by decide⟩
  · refine ⟨_, cap, rfl, ⟨Nat.le_refl _, by omega, .inr ⟨g, 0, rfl, fun j hj => ?_⟩, h.2⟩, hnc, hcm⟩
    have := h.1.cells (g := g) rfl j (.int q (zs.getD j 0)) (by simp [hj, List.getD])
    rwa [add_plain] at this
/-- The same, its length under a name. -/
theorem own_row' (h : w.ownsInts base e q v zs) : ∃ A n c, v = .slice A n c ∧ Row q w A n zs ∧ Hid (zs.length = n) ∧ n ≤ c ∧ c ≤ maxLen := by
  obtain ⟨A, c, h1, h2, h3, h4⟩ := own_row h
  exact ⟨A, _, c, h1, h2, rfl, h3, h4⟩
/-- Two rows of the call's own, apart from one another; each there, or not yet. -/
structure Two (w W : World) (e : TypeId) (q : IntKind) (x y : Option (Value × List Int)) : Prop where
  below : Below w.heap.size w W
  own1 : ∀ p, x = some p → W.ownsInts w.heap.size e q p.1 p.2
  own2 : ∀ p, y = some p → W.ownsInts w.heap.size e q p.1 p.2
  sep : ∀ p r, x = some p → y = some r → p.1.ownBlock = none ∨ r.1.ownBlock = none ∨ p.1.ownBlock ≠ r.1.ownBlock
section
variable {W : World} {x y : Option (Value × List Int)}
theorem Two.start (h : Below w.heap.size w W) : Two w W e q none none := ⟨h, (fun _ h => by cases h), (fun _ h => by cases h), (fun _ _ h => by cases h)⟩
theorem Two.swap (h : Two w W e q x y) : Two w W e q y x :=
  ⟨h.below, h.own2, h.own1, fun p r hp hr => by rcases h.sep r p hr hp with h | h | h; exact .inr (.inl h); exact .inl h; exact .inr (.inr (Ne.symm h))⟩
theorem Two.drew (h : Two w W e q x y) : Two w W.drew e q x y := ⟨h.below.drew, h.own1, h.own2, h.sep⟩
theorem Two.made (h : Two w W e q none y) {g n : Nat} {cs : Array Value} (hg : g = W.heap.size) (hn : zs.length = n) (hcs : cs.toList = zs.map (Value.int q)) (hl : zs.length ≤ 1048576) (hw : ∀ z ∈ zs, (Lit.int q z).wf = true) :
    Two w (W.alloc (.cells cs e)) e q (some (.slice (some ⟨g, 0, none⟩) n n, zs)) y := by
  subst hg
  refine ⟨h.below.alloc h.below.size _, fun p hp => ?_, fun p hp => (h.own2 p hp).alloc _, fun p r hp hr => ?_⟩
  · cases hp
    exact own_new (Has.new _ rfl) h.below.size hcs hl hw hn
  · cases hp
    refine .inr (.inr fun e => ?_)
    have := ((h.own2 r hr).1.lt W.heap.size e.symm).2
    omega
theorem Two.empty (h : Two w W e q none y) {g : Nat} (hg : g = W.heap.size) : Two w (W.alloc (.cells #[] e)) e q (some (.slice (some ⟨g, 0, none⟩) 0 0, [])) y :=
  h.made (zs := []) (cs := #[]) hg rfl rfl (by simp) (by simp)
theorem Two.zeros (h : Two w W e .u8 none y) {g : Nat} (hg : g = W.heap.size) :
    Two w (W.alloc (.cells #[.int .u8 0, .int .u8 0, .int .u8 0, .int .u8 0, .int .u8 0, .int .u8 0, .int .u8 0, .int .u8 0] e)) e .u8 (some (.slice (some ⟨g, 0, none⟩) 8 8, List.replicate 8 0)) y :=
  h.made (zs := List.replicate 8 0) hg rfl rfl (by simp) (by decide)
theorem Two.appended (h : Two w W e q (some (v, zs)) y) {v' : Value} {W' : World} {us : List Int} (own : W'.ownsInts w.heap.size e q v' (zs ++ us)) (hg : W.grownBy W' v.ownBlock) (hat : v'.ownBlock = v.ownBlock ∨ v'.ownBlock = some W.heap.size) :
    Two w W' e q (some (v', zs ++ us)) y := by
  have o1 := h.own1 _ rfl
  refine ⟨h.below.grown hg h.below.size (fun k e => (o1.1.lt k e).1), fun p hp => by cases hp; exact own, fun r hr => ?_, fun p r hp hr => ?_⟩
  · refine (h.own2 r hr).kept hg ?_
    rcases h.sep _ r rfl hr with h1 | h1 | h1
    · rw [h1]
      cases hb : r.1.ownBlock
      · exact .inl rfl
      · exact .inr (by simp)
    · exact .inl h1
    · exact .inr (Ne.symm h1)
  · cases hp
    rcases hat with hat | hat
    · rcases h.sep _ r rfl hr with h1 | h1 | h1
      · exact .inl (hat.trans h1)
      · exact .inr (.inl h1)
      · exact .inr (.inr (by rw [hat]; exact h1))
    · refine .inr (.inr fun e => ?_)
      have := ((h.own2 r hr).1.lt W.heap.size (by rw [← e, hat])).2
      omega
/-- append onto the first of the two, as one step of a region that draws its order. -/
theorem two_step {ops : Array Oper} {o : Oper} {a : Act} {K : Act → World → Prop} {Q : Exit → Act → World → Prop} {E : Prop} (hg : o.guard = none) (s x : Operand)
    (ho : o.op = .call { callee := .builtin .append, args := #[s, x], argTypes := #[t, t] }) {i : TypeInfo} {z : Value} (ht : P.underlying t = some (.slice e)) (hi : P.info? e = some i) (hz : i.zero = some z) (hs : i.size = 1) (hb : i.bytes = bytes) (hc : z.cells.size = 1) (hby : bytes ≤ 64)
    (hsv : a.eval s = v) (hxv : a.eval x = .slice A m c) (two : Two w W e q (some (v, zs)) y) (src : Row q w A m us) (hl : us.length = m) (hle : zs.length + m ≤ 1048576)
    (h : ∀ v' W', Two w W' e q (some (v', zs ++ us)) y → K (a.put o.dst v') W') :
    if Region.wanted o (yielded ops a.tmps) = true then Oper.wp P o a W K Q else E :=
  app_step hg s x ho ht hi hz hs hb hc hby hsv hxv (two.own1 _ rfl) (src.later two.below) hl hle two.below.size fun v' W' h1 h2 h3 => h v' W' (two.appended h1 h2 h3)
/-- append of the second of the two onto the first. -/
theorem two_join {ops : Array Oper} {o : Oper} {a : Act} {K : Act → World → Prop} {Q : Exit → Act → World → Prop} {E : Prop} (hg : o.guard = none) (s x : Operand)
    (ho : o.op = .call { callee := .builtin .append, args := #[s, x], argTypes := #[t, t] }) {i : TypeInfo} {z : Value} (ht : P.underlying t = some (.slice e)) (hi : P.info? e = some i) (hz : i.zero = some z) (hs : i.size = 1) (hb : i.bytes = bytes) (hc : z.cells.size = 1) (hby : bytes ≤ 64)
    {v2 : Value} (hsv : a.eval s = v) (hxv : a.eval x = v2) (two : Two w W e q (some (v, zs)) (some (v2, us))) (hle : zs.length + us.length ≤ 1048576)
    (h : ∀ v' W', W'.ownsInts w.heap.size e q v' (zs ++ us) → Below w.heap.size w W' → K (a.put o.dst v') W') :
    if Region.wanted o (yielded ops a.tmps) = true then Oper.wp P o a W K Q else E := by
  have o2 : W.ownsInts w.heap.size e q v2 us := two.own2 _ rfl
  obtain ⟨A, c, rfl, hr, _, _⟩ := own_row o2
  exact app_step hg s x ho ht hi hz hs hb hc hby hsv hxv (two.own1 _ rfl) hr rfl hle two.below.size fun v' W' h1 h2 h3 => h v' W' h1 (two.appended h1 h2 h3).below
end
end
end Go.Proofs.Ytlphahkmibhidaa
