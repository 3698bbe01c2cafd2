/- Maps of the call's own, whatever their keys and values, as a function of the keys: look-up, store, delete, len, 'range' with a round that writes and deletes. No package's types. -/
import Derived.Test.YtlphahkmibhidaaKeys
import Derived.Maps.RangeWalk
namespace Go.Proofs.Ytlphahkmibhidaa
set_option linter.unusedVariables false
open Go.ChangeShapes Go.WideShapes Go.ChangeAt Go.RowKit

/-- How an element reads: as itself. -/
def hold (v : Value) : Option (DataW Value × List MemPlace) := some (.held v, [])
/-- Keys of one type, as Lean values. -/
structure KeyT (κ : Type) where
  kt : TypeId
  ok : κ → Prop
  val : κ → Value
  lit : κ → Lit
  keyed : Maps.Keyed Try.prog kt
  key : ∀ x, ok x → keyOf Try.prog kt (val x) = some (lit x)
  inv : ∀ v l, keyOf Try.prog kt v = some l → ∃ x, v = val x ∧ ok x ∧ l = lit x
  inj : ∀ x y, val x = val y → x = y
section
variable {κ : Type} {K : KeyT κ} {w w' : World} {m n r cnt : Nat} {f f' : κ → Option Value} {left left' : κ → Bool}
theorem KeyT.lit_inj {x y : κ} (hx : K.ok x) (hy : K.ok y) (h : K.lit x = K.lit y) : x = y := K.inj _ _ (K.keyed.inj (K.key x hx) (h ▸ K.key y hy))
theorem KeyT.isKey {x : κ} (hx : K.ok x) : WideAt.IsKeyLit (K.lit x) := K.keyed.key (K.key x hx)
theorem KeyT.same [DecidableEq κ] {x y : κ} (hx : K.ok x) (hy : K.ok y) : (K.lit x).sameKey (K.lit y) = decide (x = y) := by
  by_cases h : x = y
  · subst h
    rw [WideAt.sameKey_self (K.isKey hx)]
    simp
  · rw [Maps.sameKey_ne (fun e => h (K.lit_inj hx hy e))]
    simp [h]
/-- What a datum tells of each key. -/
def Reads (K : KeyT κ) (D : DataW Value) (f : κ → Option Value) : Prop := ∀ x, K.ok x → Maps.has D (K.lit x) = (f x).isSome ∧ ∀ z, D.atKey (K.lit x) z = ((f x).map DataW.held).getD z
/-- A map in block m, of n keys: f tells what stands at each. -/
def MapV (K : KeyT κ) (w : World) (m n : Nat) (f : κ → Option Value) : Prop := ∃ D : DataW Value, w.ownsMap Try.prog K.kt hold m n D ∧ Maps.size D = n ∧ Reads K D f
/-- The same, ranged over by what stands in block r: left tells what is still to come. -/
def RanV (K : KeyT κ) (w : World) (m r n : Nat) (f : κ → Option Value) (left : κ → Bool) (cnt : Nat) : Prop :=
  ∃ (D : DataW Value) (L : Lit → Bool) (N : Nat), w.ranges Try.prog K.kt hold m r N D L cnt ∧ Maps.size D = n ∧ Reads K D f ∧ ∀ x, K.ok x → L (K.lit x) = left x
theorem MapV.lt (h : MapV K w m n f) : m < w.heap.size := by obtain ⟨D, h, _⟩ := h; exact h.lt
theorem MapV.keep (h : MapV K w m n f) (hk : w'.heap[m]? = w.heap[m]?) : MapV K w' m n f := by
  obtain ⟨D, h1, h2⟩ := h
  exact ⟨D, ownsMap_keep h1 hk, h2⟩
theorem MapV.obj (h : MapV K w m n f) : ∃ es clock, w.heap[m]? = some (.map es clock) := by
  obtain ⟨D, ⟨es, clock, hb, hr⟩, h2⟩ := h
  exact ⟨es, clock, hb⟩
theorem MapV.ne_cells (h : MapV K w m n f) {j : Nat} {cs : Array Value} {t : TypeId} {z : Nat × Nat} (hj : w.heap[j]? = some (.cells cs t z)) : j ≠ m := by
  obtain ⟨es, c, hm⟩ := h.obj
  rintro rfl
  rw [hm] at hj
  cases hj
theorem Reads.congr {D : DataW Value} (h : Reads K D f) (e : ∀ x, K.ok x → f x = f' x) : Reads K D f' := fun x hx => by rw [← e x hx]; exact h x hx
theorem MapV.congr (h : MapV K w m n f) (e : ∀ x, K.ok x → f x = f' x) : MapV K w m n f' := by
  obtain ⟨D, h1, h2, h3⟩ := h
  exact ⟨D, h1, h2, h3.congr e⟩
theorem mapV_new (K : KeyT κ) (w : World) : MapV K (w.alloc (.map #[] 0)) w.heap.size 0 (fun _ => none) := ⟨.map [], World.ownsMap_made w _ _ _, rfl, fun x _ => ⟨rfl, fun z => rfl⟩⟩
/-- A look-up. -/
theorem MapV.look (h : MapV K w m n f) {x : κ} (hx : K.ok x) {mt et : TypeId} (ht : Try.prog.underlying mt = some (.map K.kt et)) {z : Value} (hz : ∀ w, (zeroValue et).run Try.prog w = .ok z w) (hw : w'.heap[m]? = w.heap[m]?) :
    (Instr.lookup mt (.map (some m)) (K.val x) false).run Try.prog w' = .ok ((f x).getD z) w' := by
  obtain ⟨D, h1, _, h3⟩ := h.keep hw
  obtain ⟨v, ps, hr, hv⟩ := h1.lookup K.keyed ht (hz _) (zd := .held z) (zp := []) rfl (K.key x hx)
  rw [hr]
  rw [(h3 x hx).2] at hv
  unfold hold at hv
  cases hf : f x with
  | none => rw [hf] at hv; simp at hv; simp [hv.1]
  | some y => rw [hf] at hv; simp at hv; simp [hv.1]
theorem MapV.len (h : MapV K w m n f) {mt et : TypeId} (ht : Try.prog.underlying mt = some (.map K.kt et)) (ty : TypeId) : (Builtin.len_ #[mt] ty #[.map (some m)]).run Try.prog w = .ok (.int .i64 n) w := by
  obtain ⟨D, h1, h2, _⟩ := h
  rw [h1.len ht, h2]
theorem Reads.put [DecidableEq κ] {D : DataW Value} (h : Reads K D f) (hD : Maps.IsMap D) {x : κ} (hx : K.ok x) (v : Value) : Reads K (D.put (K.lit x) (.held v)) (fun y => if y = x then some v else f y) := fun y hy => by
  by_cases hc : y = x
  · subst hc
    rw [Maps.has_put_same hD (K.isKey hx)]
    refine ⟨by simp, fun z => ?_⟩
    rw [Maps.atKey_put_same hD (K.isKey hx)]
    simp
  · have hne : K.lit y ≠ K.lit x := fun e => hc (K.lit_inj hy hx e)
    rw [Maps.has_put_other hne]
    simp only [if_neg hc]
    exact ⟨(h y hy).1, fun z => by rw [Maps.atKey_put_other hne]; exact (h y hy).2 z⟩
theorem Reads.del [DecidableEq κ] {D : DataW Value} (h : Reads K D f) {x : κ} (hx : K.ok x) : Reads K (D.del (K.lit x)) (fun y => if y = x then none else f y) := fun y hy => by
  by_cases hc : y = x
  · subst hc
    rw [Maps.has_del_same]
    refine ⟨by simp, fun z => ?_⟩
    rw [Maps.atKey_del_same]
    simp
  · have hne : K.lit y ≠ K.lit x := fun e => hc (K.lit_inj hy hx e)
    rw [Maps.has_del_other hne]
    simp only [if_neg hc]
    exact ⟨(h y hy).1, fun z => by rw [Maps.atKey_del_other hne]; exact (h y hy).2 z⟩
theorem MapV.store [DecidableEq κ] (h : MapV K w m n f) {x : κ} (hx : K.ok x) {mt et : TypeId} (ht : Try.prog.underlying mt = some (.map K.kt et)) (hn : n < maxLen) (v : Value) :
    ∃ w', (Instr.mapUpdate mt (.map (some m)) (K.val x) v).run Try.prog w = .ok () w' ∧ MapV K w' m (if (f x).isSome then n else n + 1) (fun y => if y = x then some v else f y) ∧ w.mapTurned w' m := by
  obtain ⟨D, h1, h2, h3⟩ := h
  obtain ⟨w', hr, ho, htu⟩ := h1.store K.keyed ht hn (K.key x hx) (val := v) (d := .held v) (ps := []) rfl
  have hD := h1.tidy K.keyed
  have hsz : Maps.size (D.put (K.lit x) (.held v)) = (if (f x).isSome then n else n + 1) := by rw [Maps.size_put hD, (h3 x hx).1, h2]
  exact ⟨w', hr, ⟨_, hsz ▸ lower_map ho, hsz, h3.put hD.isMap hx v⟩, htu⟩
theorem MapV.drop [DecidableEq κ] (h : MapV K w m n f) {x : κ} (hx : K.ok x) {mt et : TypeId} (ht : Try.prog.underlying mt = some (.map K.kt et)) (ty : TypeId) :
    ∃ w', (Builtin.delete_ #[mt, K.kt] ty #[.map (some m), K.val x]).run Try.prog w = .ok (.tuple #[]) w' ∧ MapV K w' m (if (f x).isSome then n - 1 else n) (fun y => if y = x then none else f y) ∧ w.mapTurned w' m := by
  obtain ⟨D, h1, h2, h3⟩ := h
  obtain ⟨w', hr, ho, htu⟩ := h1.drop K.keyed ht (K.key x hx) ty
  have hD := h1.tidy K.keyed
  have hsz : Maps.size (D.del (K.lit x)) = (if (f x).isSome then n - 1 else n) := by
    have h5 := Maps.size_del (k := K.lit x) hD
    rw [(h3 x hx).1, h2] at h5
    split at h5 <;> rename_i hc <;> simp [hc] <;> omega
  exact ⟨w', hr, ⟨_, hsz ▸ lower_map ho, hsz, h3.del hx⟩, htu⟩

/-! ### 'range' -/
theorem RanV.map (h : RanV K w m r n f left cnt) : MapV K w m n f := by
  obtain ⟨D, L, N, h1, h2, h3, h4⟩ := h
  exact ⟨D, h2 ▸ lower_map h1.owns, h2, h3⟩
theorem RanV.iter (h : RanV K w m r n f left cnt) : ∃ a s b c, w.heap[r]? = some (.mapIter a s b c) := by
  obtain ⟨D, L, N, ⟨es, clock, since, seen, c0, hb, _, _, _, hr, _⟩, _⟩ := h
  exact ⟨_, _, _, _, hr⟩
theorem RanV.ne_cells (h : RanV K w m r n f left cnt) {j : Nat} {cs : Array Value} {t : TypeId} {z : Nat × Nat} (hj : w.heap[j]? = some (.cells cs t z)) : j ≠ m ∧ j ≠ r := by
  refine ⟨h.map.ne_cells hj, ?_⟩
  obtain ⟨_, _, _, _, hm⟩ := h.iter
  rintro rfl
  rw [hm] at hj
  cases hj
theorem RanV.keep (h : RanV K w m r n f left cnt) (hm : w'.heap[m]? = w.heap[m]?) (hr : w'.heap[r]? = w.heap[r]?) : RanV K w' m r n f left cnt := by
  obtain ⟨D, L, N, ⟨es, clock, since, seen, c0, hb, F, hs, hD, hi, rest⟩, h2⟩ := h
  exact ⟨D, L, N, ⟨es, clock, since, seen, c0, hm.trans hb, F, hs, hD, hr.trans hi, rest⟩, h2⟩
theorem RanV.congr (h : RanV K w m r n f left cnt) (e : ∀ x, K.ok x → f x = f' x) (e' : ∀ x, K.ok x → left x = left' x) : RanV K w m r n f' left' cnt := by
  obtain ⟨D, L, N, h1, h2, h3, h4⟩ := h
  exact ⟨D, L, N, h1, h2, h3.congr e, fun x hx => by rw [h4 x hx, e' x hx]⟩
theorem RanV.drop [DecidableEq κ] (h : RanV K w m r n f left cnt) {x : κ} (hx : K.ok x) {mt et : TypeId} (ht : Try.prog.underlying mt = some (.map K.kt et)) (ty : TypeId) :
    ∃ w' cnt', (Builtin.delete_ #[mt, K.kt] ty #[.map (some m), K.val x]).run Try.prog w = .ok (.tuple #[]) w' ∧ RanV K w' m r (if (f x).isSome then n - 1 else n) (fun y => if y = x then none else f y) (fun y => left y && !decide (y = x)) cnt' ∧ cnt' ≤ cnt ∧ w.mapTurned w' m := by
  obtain ⟨D, L, N, h1, h2, h3, h4⟩ := h
  obtain ⟨w', cnt', hr, ho, hle, htu⟩ := h1.drop K.keyed ht (K.key x hx) ty
  have hD := h1.owns.tidy K.keyed
  have hsz : Maps.size (D.del (K.lit x)) = (if (f x).isSome then n - 1 else n) := by
    have h5 := Maps.size_del (k := K.lit x) hD
    rw [(h3 x hx).1, h2] at h5
    split at h5 <;> rename_i hc <;> simp [hc] <;> omega
  exact ⟨w', cnt', hr, ⟨_, _, N, ho, hsz, h3.del hx, fun y hy => by rw [h4 y hy, KeyT.same hy hx]⟩, hle, htu⟩
end
section
variable {κ : Type} {K : KeyT κ} {w : World} {m n r cnt : Nat} {f : κ → Option Value} {left : κ → Bool} {ops : Array Oper} {rest : List Oper} {o : Oper} {a : Act} {Q : Exit → Act → World → Prop}
theorem wpList_rangeV (hg : o.guard = none) (s : Operand) (mt et : TypeId) (hop : o.op = Op.range mt s) (ht : Try.prog.underlying mt = some (.map K.kt et)) (hs : a.eval s = .map (some m)) (h : MapV K w m n f)
    (hK : ∀ w', RanV K w' m w.heap.size n f (fun x => (f x).isSome) n → Below w.heap.size w w' → w'.heap.size = w.heap.size + 1 → wpList Try.prog ops Q rest (a.put o.dst (.pointer (some ⟨w.heap.size, 0, none⟩))) w') : wpList Try.prog ops Q (o :: rest) a w := by
  obtain ⟨D, h1, h2, h3⟩ := h
  refine wpList_range_own w hg s mt hop K.kt et K.keyed ht hold m n D hs h1 fun w' r1 r2 r3 => ?_
  rw [h2] at r1
  exact hK w' ⟨D, Maps.has D, n, r1, h2, h3, fun x hx => (h3 x hx).1⟩ ⟨r2.os, r2.tape, r2.output, r2.size, fun j hj => r2.block j hj (by simp)⟩ r3
theorem wpList_nextV [DecidableEq κ] (hg : o.guard = none) (it : Operand) (hop : o.op = Op.next it false) (hit : a.eval it = .pointer (some ⟨r, 0, none⟩)) (h : RanV K w m r n f left cnt)
    (hDone : (∀ x, K.ok x → left x = false) → wpList Try.prog ops Q rest (a.put o.dst (.tuple #[.bool false])) w)
    (hMore : ∀ (x : κ) (v : Value) (w' : World) (cnt' : Nat), K.ok x → left x = true → f x = some v → RanV K w' m r n f (fun y => left y && !decide (y = x)) cnt' → cnt' < cnt → Frm (· = r) w w' → w'.heap.size = w.heap.size →
      (Instr.entry (.pointer (some ⟨r, 0, none⟩))).run Try.prog w' = .ok (.tuple #[K.val x, v]) w' → wpList Try.prog ops Q rest (a.put o.dst (.tuple #[.bool true, K.val x, v])) w') : wpList Try.prog ops Q (o :: rest) a w := by
  obtain ⟨D, L, N, h1, h2, h3, h4⟩ := h
  refine wpList_next_ranges w hg it hop K.kt K.keyed hold K.val (fun v : Value => v) (fun key kl hk => by obtain ⟨x, e, _⟩ := K.inv _ _ hk; exact ⟨x, e⟩) (fun v y hv => ⟨v, rfl⟩) m r N D L cnt hit h1 (fun _ hl => hDone (fun x hx => by rw [← h4 x hx]; exact hl _)) ?_
  intro x v kl y w' cnt' hkey hlx hv hat hrg hlt hgr hsz hen
  obtain ⟨x', e, hx, rfl⟩ := K.inv _ _ hkey
  obtain rfl := K.inj _ _ e
  have hfx : f x = some v := by
    have := (h3 x hx).2 .nil
    rw [hat] at this
    unfold hold at hv
    injection hv with hv
    subst hv
    cases hf : f x with
    | none => rw [hf] at this; simp at this
    | some u => rw [hf] at this; simp at this; rw [this]
  exact hMore x v w' cnt' hx (by rw [← h4 x hx]; exact hlx) hfx ⟨D, _, N, hrg, h2, h3, fun y hy => by rw [h4 y hy, KeyT.same hy hx]⟩ hlt (Frm.of_grown hgr rfl) hsz hen
end
end Go.Proofs.Ytlphahkmibhidaa
