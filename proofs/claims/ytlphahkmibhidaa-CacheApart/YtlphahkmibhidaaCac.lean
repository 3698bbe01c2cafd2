/- A cache's memory: its block, its two maps, its entries, the rows of those who joined; contracts of package cache: New, Len. -/
import Derived.Test.YtlphahkmibhidaaMapV
import Derived.Test.YtlphahkmibhidaaCacMath
import Derived.Test.YtlphahkmibhidaaAgg
import Derived.Test.YtlphahkmibhidaaInts
namespace Go.Proofs.Ytlphahkmibhidaa
set_option linter.unusedVariables false
open Go.ChangeShapes Go.WideShapes Go.ChangeAt Go.RowKit

/-! ### three integers by value -/
def v3 (k : K3) : List Value := [.int .i64 k.a, .int .i64 k.b, .int .i64 k.c]
theorem v3_len (k : K3) : (v3 k).length = 3 := rfl
theorem v3_ones (k : K3) : Ones (v3 k) := by intro v hv; simp only [v3, List.mem_cons, List.not_mem_nil, or_false] at hv; rcases hv with rfl | rfl | rfl <;> rfl
theorem v3_inj {a b : K3} (h : v3 a = v3 b) : a = b := by
  obtain ⟨a, b', c⟩ := a
  obtain ⟨d, e, f⟩ := b
  simp [v3] at h
  obtain ⟨rfl, rfl, rfl⟩ := h
  rfl
abbrev i3 : List CK := [.int .i64, .int .i64, .int .i64]
theorem v3_flat {k : K3} (h : wf3 k) : Flat i3 (v3 k) := ⟨⟨_, rfl, h.1.lit⟩, ⟨_, rfl, h.2.1.lit⟩, ⟨_, rfl, h.2.2.lit⟩, trivial⟩
theorem flat_v3 {vs : List Value} (h : Flat i3 vs) : ∃ k : K3, vs = v3 k ∧ wf3 k := by
  obtain _ | ⟨v0, vs⟩ := vs
  · exact h.elim
  obtain ⟨⟨a, rfl, ha⟩, h⟩ := h
  obtain _ | ⟨v1, vs⟩ := vs
  · exact h.elim
  obtain ⟨⟨b, rfl, hb⟩, h⟩ := h
  obtain _ | ⟨v2, vs⟩ := vs
  · exact h.elim
  obtain ⟨⟨c, rfl, hc⟩, h⟩ := h
  obtain _ | ⟨v3, vs⟩ := vs
  · exact ⟨⟨a, b, c⟩, rfl, bounds_i64 ha, bounds_i64 hb, bounds_i64 hc⟩
  · exact h.elim
theorem cells3 {w : World} {g : Nat} {ty : TypeId} {k : K3} (h : w.heap[g]? = some (vobj ty (v3 k))) : w.cell? ⟨g, 0, none⟩ = some (.int .i64 k.a) ∧ w.cell? ⟨g, 1, none⟩ = some (.int .i64 k.b) ∧ w.cell? ⟨g, 2, none⟩ = some (.int .i64 k.c) :=
  ⟨vobj_cell h rfl, vobj_cell h rfl, vobj_cell h rfl⟩

/-! ### cache's types -/
theorem undK : ∃ fs, Try.prog.underlying 47 = some (.struct fs) := ⟨_, Try.underlying47⟩
theorem undT : ∃ fs, Try.prog.underlying 44 = some (.struct fs) := ⟨_, Try.underlying44⟩
theorem sizeK (k : K3) : (Try.prog.info? 47).map (·.size) = some (v3 k).length := by rw [v3_len]; kernel_rfl
theorem sizeT (k : K3) : (Try.prog.info? 44).map (·.size) = some (v3 k).length := by rw [v3_len]; kernel_rfl
theorem allocT (w : World) : (Instr.alloc 44 true (.tuple #[])).run Try.prog w = .ok (.pointer (some ⟨w.heap.size, 0, none⟩)) (w.alloc (vobj 44 (v3 zero3))) := by kernel_rfl
theorem allocK (w : World) : (Instr.alloc 47 true (.tuple #[])).run Try.prog w = .ok (.pointer (some ⟨w.heap.size, 0, none⟩)) (w.alloc (vobj 47 (v3 zero3))) := by kernel_rfl
theorem buildT (w : World) : (Instr.build 44 #[]).run Try.prog w = .ok (.agg (aggV (v3 zero3))) w := by kernel_rfl
theorem loadT {w : World} {g : Nat} {x : K3} (h : w.heap[g]? = some (vobj 44 (v3 x))) : (loadVar 44 ⟨g, 0, none⟩).run Try.prog w = .ok (.agg (aggV (v3 x))) w := by
  obtain ⟨fs, hu⟩ := undT
  exact run_load_agg w _ g (v3 x) _ h hu rfl (sizeT x)
theorem loadK {w : World} {g : Nat} {x : K3} (h : w.heap[g]? = some (vobj 47 (v3 x))) : (loadVar 47 ⟨g, 0, none⟩).run Try.prog w = .ok (.agg (aggV (v3 x))) w := by
  obtain ⟨fs, hu⟩ := undK
  exact run_load_agg w _ g (v3 x) _ h hu rfl (sizeK x)
/-- '==' of what was told. -/
theorem sameT (x y : K3) (h : wf3 x) (h' : wf3 y) (w : World) : (Op.equalIn 10000 44 (.agg (aggV (v3 x))) (.agg (aggV (v3 y)))).run Try.prog w = .ok (decide (x = y)) w := by
  by_cases e : x = y
  · subst e
    rw [same_yes (P := Try.prog) (t := 44) (ks := i3) 8 (by decide) (by kernel_rfl) (by kernel_rfl) (by kernel_rfl) (by kernel_rfl) (xs := aggV (v3 x)) (v3_flat h) w]
    simp
  · rw [same_no (P := Try.prog) (t := 44) (ks := i3) 8 (by decide) (by kernel_rfl) (by kernel_rfl) (by kernel_rfl) (by kernel_rfl) (xs := aggV (v3 x)) (ys := aggV (v3 y)) (v3_flat h) (v3_flat h') (fun hc => e (v3_inj (aggV_inj hc))) w]
    simp [e]
theorem key_row : (47 : TypeId) < Try.prog.types.size := of_decide_eq_true (by kernel_rfl)
/-- Keys of the cache. -/
def keyK : KeyT K3 where
  kt := 47
  ok := wf3
  val k := .agg (aggV (v3 k))
  lit k := .string (keyBytes ((aggV (v3 k)).toList.map vlit))
  keyed := Maps.Keyed.of_law (deep_law_laid laid_out_k (m := 2) (by omega) key_row (by kernel_rfl) (by kernel_rfl))
  key k h := key_flat (P := Try.prog) (ks := i3) (by kernel_rfl) (by kernel_rfl) (by kernel_rfl) (by kernel_rfl) (v3_flat h)
  inv v l h := by
    obtain ⟨cs, rfl, hf⟩ := key_flat_inv (P := Try.prog) (ks := i3) 4 (by kernel_rfl) (by kernel_rfl) h
    obtain ⟨k, e, hk⟩ := flat_v3 hf
    have e' : cs = aggV (v3 k) := by rw [← e]; rfl
    subst e'
    refine ⟨k, rfl, hk, ?_⟩
    have := key_flat (P := Try.prog) (t := 47) (ks := i3) (cs := aggV (v3 k)) (by kernel_rfl) (by kernel_rfl) (by kernel_rfl) (by kernel_rfl) (v3_flat hk)
    rw [this] at h
    injection h with h
    exact h.symm
  inj x y h := by
    injection h with h
    exact v3_inj (aggV_inj h)
theorem key_map : Try.prog.underlying 58 = some (.map keyK.kt 68) := by kernel_rfl
theorem ent_zero (w : World) : (zeroValue 68).run Try.prog w = .ok (.pointer none) w := by kernel_rfl
theorem int_und : Try.prog.underlying 3 = some (.int .i64) := by kernel_rfl
/-- Keys that are integers. -/
def intK : KeyT Int where
  kt := 3
  ok := wf64
  val z := .int .i64 z
  lit z := .int .i64 z
  keyed := Maps.int_keyed (q := .i64) (by kernel_rfl)
  key z h := Maps.keyOf_int_mk int_und h.lit
  inv v l h := by
    obtain ⟨x, rfl, rfl, hw⟩ := Maps.keyOf_int_inv int_und h
    exact ⟨x, rfl, bounds_i64 hw, rfl⟩
  inj x y h := by injection h
theorem join_map : Try.prog.underlying 59 = some (.map intK.kt 49) := by kernel_rfl
theorem row_zero (w : World) : (zeroValue 49).run Try.prog w = .ok (.slice none 0 0) w := by kernel_rfl

/-! ### a cache -/
/-- An entry's cells. -/
def CE.vals (e : CE) : List Value := [.int .i64 e.id, .bool e.done, .int .i64 e.t.a, .int .i64 e.t.b, .int .i64 e.t.c]
/-- Where the entry of a key lies. -/
def ptrs (L : List (CE × Nat)) (x : K3) : Option Value := (L.find? (fun p => decide (p.1.k = x))).map (fun p => .pointer (some ⟨p.2, 0, none⟩))
abbrev cobj (km jm : Nat) : Obj := vobj 61 [.map (some km), .map (some jm)]
abbrev eobj (e : CE) : Obj := vobj 70 e.vals
structure CX (w : World) (F : Nat → Prop) (b km jm : Nat) (L : List (CE × Nat)) (n : Nat) (jf : Int → Option Value) (S : CA) : Prop where
  blk : w.heap[b]? = some (cobj km jm)
  keys : MapV keyK w km L.length (ptrs L)
  ents : ∀ p ∈ L, w.heap[p.2]? = some (eobj p.1)
  apart : L.Pairwise (fun a c => a.2 ≠ c.2)
  view : L.map (·.1) = S.E
  join : MapV intK w jm n jf
  nj : n ≤ S.q
  rows : ∀ z v, wf64 z → jf z = some v → Ints w 0 v (S.joined z) ∧ S.joined z ≠ []
  rown : ∀ z, wf64 z → jf z = none → S.joined z = []
  rapt : ∀ z z' v v' g, wf64 z → wf64 z' → z ≠ z' → jf z = some v → jf z' = some v' → v.ownBlock = some g → v'.ownBlock ≠ some g
  ne : km ≠ jm
  fb : F b
  fk : F km
  fj : F jm
  fe : ∀ p ∈ L, F p.2
  fr : ∀ z v g, wf64 z → jf z = some v → v.ownBlock = some g → F g
  ok : S.Ok
/-- A cache in block b, all of its blocks of F. -/
def Cch (w : World) (F : Nat → Prop) (b : Nat) (S : CA) : Prop := ∃ km jm L n jf, CX w F b km jm L n jf S
/-- Types of a cache's blocks. -/
def Ours (t : TypeId) : Prop := t = 61 ∨ t = 70 ∨ t = 3
instance (t : TypeId) : Decidable (Ours t) := by unfold Ours; infer_instance
/-- What a call of the cache may turn: blocks of F; of those that hold cells entries and integers alone. -/
def Foot (w : World) (F : Nat → Prop) (j : Nat) : Prop := F j ∧ ∀ cs t z, w.heap[j]? = some (.cells cs t z) → t = 70 ∨ t = 3
section
variable {w w' : World} {F F' G : Nat → Prop} {b km jm n : Nat} {L : List (CE × Nat)} {jf : Int → Option Value} {S : CA}
theorem Ints.apart {base : Nat} {v : Value} {zs : List Int} (h : Ints w base v zs) (hk : ∀ g, v.ownBlock = some g → w'.heap[g]? = w.heap[g]?) : Ints w' base v zs := by
  refine ⟨⟨h.1.1, ?_⟩, h.2⟩
  rcases h.1.2 with h0 | ⟨g, cap, cur, hv, hb, hh, hr⟩
  · exact .inl h0
  · exact .inr ⟨g, cap, cur, hv, hb, by rw [hk g (by rw [hv]; rfl)]; exact hh, hr⟩
theorem Ints.lt_ {base : Nat} {v : Value} {zs : List Int} (h : Ints w base v zs) {g : Nat} (hg : v.ownBlock = some g) : g < w.heap.size := (h.1.lt g hg).2
/-- What leaves the cache's blocks leaves the cache. -/
theorem CX.keep (h : CX w F b km jm L n jf S) (hk : ∀ j o, w.heap[j]? = some o → F j → (∀ cs t z, o = .cells cs t z → Ours t) → w'.heap[j]? = some o) : CX w' F b km jm L n jf S := by
  have hm : ∀ {m es c}, w.heap[m]? = some (.map es c) → F m → w'.heap[m]? = w.heap[m]? := fun {m es c} he hf => by rw [hk m _ he hf (fun _ _ _ e => by cases e), he]
  obtain ⟨e1, c1, hkm⟩ := h.keys.obj
  obtain ⟨e2, c2, hjm⟩ := h.join.obj
  refine ⟨hk b _ h.blk h.fb (fun cs t z e => by injection e with _ e _; exact .inl e.symm), h.keys.keep (hm hkm h.fk), fun p hp => hk _ _ (h.ents p hp) (h.fe p hp) (fun cs t z e => by injection e with _ e _; exact .inr (.inl e.symm)), h.apart, h.view, h.join.keep (hm hjm h.fj), h.nj, fun z v hz hv => ⟨(h.rows z v hz hv).1.apart (fun g hg => ?_), (h.rows z v hz hv).2⟩, h.rown, h.rapt, h.ne, h.fb, h.fk, h.fj, h.fe, h.fr, h.ok⟩
  obtain ⟨cs, hcs⟩ := (h.rows z v hz hv).1.block hg
  rw [hk g _ hcs (h.fr z v g hz hv hg) (fun cs t z e => by injection e with _ e _; exact .inr (.inr e.symm)), hcs]
theorem CX.mono (h : CX w F b km jm L n jf S) (hF : ∀ j, j < w.heap.size → F j → F' j) : CX w F' b km jm L n jf S :=
  ⟨h.blk, h.keys, h.ents, h.apart, h.view, h.join, h.nj, h.rows, h.rown, h.rapt, h.ne, hF _ (heap_lt h.blk) h.fb, hF _ h.keys.lt h.fk, hF _ h.join.lt h.fj, fun p hp => hF _ (heap_lt (h.ents p hp)) (h.fe p hp), fun z v g hz hv hg => hF _ ((h.rows z v hz hv).1.lt_ hg) (h.fr z v g hz hv hg), h.ok⟩
theorem Cch.keep (h : Cch w F b S) (hk : ∀ j o, w.heap[j]? = some o → F j → (∀ cs t z, o = .cells cs t z → Ours t) → w'.heap[j]? = some o) : Cch w' F b S := by
  obtain ⟨km, jm, L, n, jf, h⟩ := h
  exact ⟨km, jm, L, n, jf, h.keep hk⟩
theorem Cch.mono (h : Cch w F b S) (hF : ∀ j, j < w.heap.size → F j → F' j) : Cch w F' b S := by
  obtain ⟨km, jm, L, n, jf, h⟩ := h
  exact ⟨km, jm, L, n, jf, h.mono hF⟩
theorem Cch.below (h : Cch w F b S) (hb : Below w.heap.size w w') : Cch w' F b S := h.keep (fun j o ho _ _ => kb_below ho hb)
theorem Cch.ali (h : Cch w F b S) (ha : Ali w w') : Cch w' F b S := h.below (ali_below ha)
/-- Blocks that are none of F may turn. -/
theorem Cch.frm (h : Cch w F b S) (hf : Frm G w w') (hG : ∀ j, j < w.heap.size → G j → ¬ F j) : Cch w' F b S :=
  h.keep (fun j o ho hj _ => by rw [hf.block j (heap_lt ho) (fun hg => hG j (heap_lt ho) hg hj)]; exact ho)
/-- A block of another type may turn. -/
theorem Cch.beside (h : Cch w F b S) {g : Nat} {cs : Array Value} {t : TypeId} {z : Nat × Nat} (hg : w.heap[g]? = some (.cells cs t z)) (ht : ¬ Ours t) (hf : Frm (· = g) w w') : Cch w' F b S :=
  h.keep (fun j o ho hj hty => by
    rw [hf.block j (heap_lt ho) (fun e => ?_)]
    · exact ho
    · have e' : j = g := e
      rw [e', hg] at ho
      injection ho with ho
      exact ht (hty cs t z ho.symm))
theorem Cch.ok (h : Cch w F b S) : S.Ok := by obtain ⟨km, jm, L, n, jf, h⟩ := h; exact h.ok
/-- What a call leaves. -/
theorem foot_kept (hf : Frm (Foot w F) w w') {j : Nat} {cs : Array Value} {t : TypeId} {z : Nat × Nat} (hj : w.heap[j]? = some (.cells cs t z)) (ht : ¬ Ours t) : w'.heap[j]? = some (.cells cs t z) := by
  rw [hf.block j (heap_lt hj) (fun hc => ht ?_)]
  · exact hj
  · rcases hc.2 cs t z hj with e | e
    · exact .inr (.inl e)
    · exact .inr (.inr e)
theorem foot_far (hf : Frm (Foot w F) w w') {j : Nat} (hj : j < w.heap.size) (hn : ¬ F j) : w'.heap[j]? = w.heap[j]? := hf.block j hj (fun hc => hn hc.1)
theorem foot_below (hf : Frm (Foot w F) w w') {B : Nat} (hB : B ≤ w.heap.size) (hF : ∀ j, F j → B ≤ j) : Below B w w' := hf.below hB (fun j hj hc => by have := hF j hc.1; omega)
theorem CX.cells (h : CX w F b km jm L n jf S) : w.cell? ⟨b, 0, none⟩ = some (.map (some km)) ∧ w.cell? ⟨b, 1, none⟩ = some (.map (some jm)) := ⟨vobj_cell h.blk rfl, vobj_cell h.blk rfl⟩
theorem CX.len (h : CX w F b km jm L n jf S) : L.length = S.E.length := by rw [← h.view, List.length_map]
end

set_option maxHeartbeats 1000000 in
theorem new_cch (w : World) : Calls Try.prog 10 #[] w fun r w' => ∃ b, r = .returned (.pointer (some ⟨b, 0, none⟩)) ∧ Cch w' (w.heap.size ≤ ·) b CA.none_ ∧ Below w.heap.size w w' := by
  have hr : CX (((w.alloc (.map #[] 0)).alloc (.map #[] 0)).alloc (cobj w.heap.size (w.heap.size + 1))) (w.heap.size ≤ ·) (w.heap.size + 2) w.heap.size (w.heap.size + 1) [] 0 (fun _ => none) CA.none_ := by
    have e1 : (w.alloc (.map #[] 0)).heap.size = w.heap.size + 1 := by simp
    have e2 : ((w.alloc (.map #[] 0)).alloc (.map #[] 0)).heap.size = w.heap.size + 2 := by simp
    refine ⟨?_, ?_, by simp, List.Pairwise.nil, rfl, ?_, by simp [CA.none_], fun z v _ hv => (by cases hv), fun z _ _ => rfl, fun z z' v v' g _ _ _ hv => (by cases hv), by omega, by simp, by simp, by simp, by simp, fun z v g _ hv => (by cases hv), CA.ok_none⟩
    · rw [← e2]; exact heap_alloc_at _ _
    · exact (mapV_new keyK w).keep (by rw [heap_alloc_lt (by simp; omega), heap_alloc_lt (by simp)])
    · have := mapV_new intK (w.alloc (.map #[] 0))
      rw [e1] at this
      exact this.keep (heap_alloc_lt (by simp))
  have hb : Below w.heap.size w (((w.alloc (.map #[] 0)).alloc (.map #[] 0)).alloc (cobj w.heap.size (w.heap.size + 1))) := (((Below.refl _ _).alloc (Nat.le_refl _) _).alloc (by simp) _).alloc (by simp; omega) _
  have HR := Lib.hid hr
  have HB := Lib.hid hb
  clear hr hb
  have hmm := @run_makeMap Try.prog
  go_enter Try.func10, Try.ntmps10
  go_wp2
  go_ret
  exact ⟨w.heap.size + 2, rfl, ⟨_, _, _, _, _, HR.out⟩, HB.out⟩
theorem len_cch (F : Nat → Prop) (b : Nat) (S : CA) (w : World) (h : Cch w F b S) : Calls Try.prog 12 #[.pointer (some ⟨b, 0, none⟩)] w fun r w' => r = .returned (.int .i64 S.E.length) ∧ w = w' := by
  obtain ⟨km, jm, L, n, jf, h⟩ := h
  obtain ⟨c0, c1⟩ := h.cells
  have hl := h.keys.len key_map
  rw [h.len] at hl
  clear h
  go_enter Try.func12, Try.ntmps12
  go_wp2
  go_ret
  exact ⟨rfl, rfl⟩
theorem len_nil (w : World) : Calls Try.prog 12 #[.pointer none] w fun r w' => r = .returned (.int .i64 0) ∧ w = w' := by
  go_enter Try.func12, Try.ntmps12
  go_wp2
  go_ret
  exact ⟨rfl, rfl⟩
end Go.Proofs.Ytlphahkmibhidaa
