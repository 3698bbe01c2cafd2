/- Plain structs and arrays compared: '==' tells whether all cells are the same. -/
import Derived.Test.YtfncipoiblieeaaKit
import Derived.DeepKeys
namespace Go.Proofs.Ytfncipoiblieeaa
set_option linter.unusedVariables false
open Go.ChangeShapes Go.WideShapes Go.ChangeAt Go.RowKit Go.Deep

/-- A cell of plain data as a literal. -/
def vlit : Value → Lit
  | .bool b => .bool b
  | .int k n => .int k n
  | .string s => .string s.data.toList
  | _ => .bool false

theorem Flat.part : ∀ {a b : List CK} {cs : List Value}, Flat (a ++ b) cs → Flat a (cs.take a.length) ∧ Flat b (cs.drop a.length)
  | [], _, _, h => ⟨by simp [Flat], by simpa using h⟩
  | _ :: _, _, [], h => h.elim
  | _ :: _, _, _ :: _, h => ⟨⟨h.1, (Flat.part h.2).1⟩, (Flat.part h.2).2⟩

theorem vlit_inj : ∀ {ks : List CK} {xs ys : List Value}, Flat ks xs → Flat ks ys → xs.map vlit = ys.map vlit → xs = ys
  | [], [], [], _, _, _ => rfl
  | [], _ :: _, _, h, _, _ => h.elim
  | [], [], _ :: _, _, h, _ => h.elim
  | _ :: _, [], _, h, _, _ => h.elim
  | _ :: _, _ :: _, [], _, h, _ => h.elim
  | c :: cs, x :: xs, y :: ys, h, g, e => by
    simp only [List.map_cons, List.cons.injEq] at e
    have e2 := vlit_inj h.2 g.2 e.2
    have e1 := e.1
    have h1 := h.1
    have g1 := g.1
    match c with
    | some (some k) =>
      obtain ⟨n, rfl, _⟩ := h1
      obtain ⟨m, rfl, _⟩ := g1
      simp [vlit] at e1
      rw [e1, e2]
    | some Option.none =>
      obtain ⟨n, rfl⟩ := h1
      obtain ⟨m, rfl⟩ := g1
      simp [vlit] at e1
      rw [e1, e2]
    | Option.none =>
      obtain ⟨⟨⟨n⟩⟩, rfl, _⟩ := h1
      obtain ⟨⟨⟨m⟩⟩, rfl, _⟩ := g1
      simp [vlit] at e1
      rw [e1, e2]

section
variable {P : Program}

theorem lits_fields {g : TypeId → Option (List CK)} {d : Nat} {cs : List Value} (hg : ∀ t ks us, g t = some ks → P.keyTypeAt d t = true → Flat ks us → P.keyLits d t us = some (us.map vlit)) :
    ∀ (fs : List Field) (off : Nat) (ks : List CK), fieldKinds P g fs off = some ks → (∀ fd ∈ fs, P.keyTypeAt d fd.type = true) → Flat ks (cs.drop off) →
      ∃ Ls, (fs.mapM fun fd => P.keyLits d fd.type ((cs.drop fd.offset).take (P.cellsOf fd.type))) = some Ls ∧ Ls.flatten = (cs.drop off).map vlit
  | [], off, ks, h, _, hf => by
    simp only [fieldKinds, Option.some.injEq] at h
    subst h
    refine ⟨[], rfl, ?_⟩
    generalize cs.drop off = us at hf
    match us, hf with
    | [], _ => rfl
  | fd :: fs, off, ks, h, hk, hf => by
    simp only [fieldKinds, Option.bind_eq_some_iff] at h
    obtain ⟨l, h1, h⟩ := h
    split at h
    · rename_i hc
      simp only [Option.map_eq_some_iff] at h
      obtain ⟨l', h2, rfl⟩ := h
      have hp := hf.part
      rw [List.drop_drop] at hp
      obtain ⟨Ls, e1, e2⟩ := lits_fields hg fs (off + l.length) l' h2 (fun x hx => hk x (by simp [hx])) hp.2
      have e0 := hg fd.type l _ h1 (hk fd (by simp)) hp.1
      refine ⟨((cs.drop off).take l.length).map vlit :: Ls, ?_, ?_⟩
      · rw [List.mapM_cons]
        rw [hc.1, hc.2, e0, e1]
        rfl
      · rw [List.flatten_cons, e2, ← List.map_append, ← List.drop_drop, List.take_append_drop]
    · cases h

theorem lits_items {l : List CK} {d : Nat} {e : TypeId} {cs : List Value} (hg : ∀ us, Flat l us → P.keyLits d e us = some (us.map vlit)) :
    ∀ (m i : Nat), Flat (List.replicate m l).flatten (cs.drop (i * l.length)) →
      ∃ Ls, ((List.range' i m).mapM fun j => P.keyLits d e ((cs.drop (j * l.length)).take l.length)) = some Ls ∧ Ls.flatten = (cs.drop (i * l.length)).map vlit
  | 0, i, hf => by
    refine ⟨[], rfl, ?_⟩
    generalize cs.drop (i * l.length) = us at hf
    match us, hf with
    | [], _ => rfl
  | m + 1, i, hf => by
    rw [List.replicate_succ, List.flatten_cons] at hf
    have hp := hf.part
    rw [List.drop_drop, show i * l.length + l.length = (i + 1) * l.length by rw [Nat.succ_mul]] at hp
    obtain ⟨Ls, e1, e2⟩ := lits_items hg m (i + 1) hp.2
    refine ⟨((cs.drop (i * l.length)).take l.length).map vlit :: Ls, ?_, ?_⟩
    · rw [List.range'_succ, List.mapM_cons, hg _ hp.1, e1]
      rfl
    · rw [List.flatten_cons, e2, ← List.map_append, Nat.succ_mul, ← List.drop_drop, List.take_append_drop]

theorem lits_flat : ∀ (f : Nat) (t : TypeId) (ks : List CK) (cs : List Value), kindsOf P f t = some ks → P.keyTypeAt f t = true → Flat ks cs → P.keyLits f t cs = some (cs.map vlit)
  | 0, _, _, _, h, _, _ => by simp [kindsOf] at h
  | f + 1, t, ks, cs, h, hk, hf => by
    unfold kindsOf at h
    split at h
    · rename_i ht
      cases h
      match cs, hf with
      | [_], ⟨⟨b, rfl⟩, _⟩ => simp [Program.keyLits, ht, vlit]
    · rename_i k ht
      cases h
      match cs, hf with
      | [_], ⟨⟨n, rfl, hw⟩, _⟩ => simp [Program.keyLits, ht, vlit, hw]
    · rename_i ht
      cases h
      match cs, hf with
      | [_], ⟨⟨s, rfl, hs⟩, _⟩ => simp [Program.keyLits, ht, vlit, hs]
    · rename_i fs ht
      simp only [Option.bind_eq_some_iff] at h
      obtain ⟨l, h1, h⟩ := h
      split at h
      · rename_i hc
        cases h
        unfold Program.keyTypeAt at hk
        simp only [ht, Bool.and_eq_true, Array.all_eq_true_iff_forall_mem] at hk
        obtain ⟨Ls, e1, e2⟩ := lits_fields (cs := cs) (g := kindsOf P f) (d := f) (fun t ks us a b c => lits_flat f t ks us a b c) fs.toList 0 ks h1 (fun fd hm => (hk.1.1 fd (by simpa using hm)).2) (by simpa using hf)
        have hb : fs.all (·.name != "_") = true := by
          rw [Array.all_eq_true_iff_forall_mem]
          exact fun x hx => (hk.1.1 x hx).1
        simp only [Program.keyLits, ht]
        rw [if_pos ⟨by rw [hc, hf.length], hb⟩, e1]
        simpa using e2
      · cases h
    · rename_i n e ht
      simp only [Option.bind_eq_some_iff] at h
      obtain ⟨l, h1, h⟩ := h
      split at h
      · rename_i hc
        cases h
        unfold Program.keyTypeAt at hk
        simp only [ht] at hk
        obtain ⟨Ls, e1, e2⟩ := lits_items (cs := cs) (d := f) (e := e) (l := l) (fun us hu => lits_flat f e l us h1 hk hu) n 0 (by simpa using hf)
        simp only [Program.keyLits, ht]
        rw [if_pos (by rw [hf.length, hc.2]; simp), List.range_eq_range', hc.1, e1]
        simpa using e2
      · cases h
    · cases h

/-- '==' of two plain structs or arrays. -/
theorem same_flat {t : TypeId} {ks : List CK} {xs ys : Array Value} (f : Nat) (hle : f ≤ 10000) (hk : kindsOf P f t = some ks) (ht : P.keyTypeAt f t = true) (hc : P.cellsOf t = ks.length)
    (hagg : (match P.underlying t with | some (.struct _) | some (.array _ _) => true | _ => false) = true) (hx : Flat ks xs.toList) (hy : Flat ks ys.toList) (w : World) :
    ∃ r : Bool, (Op.equalIn 10000 t (.agg xs) (.agg ys)).run P w = .ok r w ∧ (r = true ↔ xs = ys) := by
  have fm : ∀ zs : Array Value, Flat ks zs.toList → Value.formed P t (.agg zs) = true := by
    intro zs hz
    have := hz.length
    simp only [Array.length_toList] at this
    unfold Value.formed
    split at hagg <;> simp_all
  have := run_equalIn_deep (P := P) (10000 - f) f t ht w f f (.agg xs) (.agg ys) _ _ (fm xs hx) (fm ys hy) (lits_flat f t ks _ hk ht hx) (lits_flat f t ks _ hk ht hy)
  rw [Nat.sub_add_cancel hle] at this
  obtain ⟨r, h1, h2⟩ := this
  refine ⟨r, h1, h2.trans ⟨fun e => ?_, fun e => by rw [e]⟩⟩
  have := vlit_inj hx hy e
  exact Array.toList_inj.1 this
theorem same_yes {t : TypeId} {ks : List CK} {xs : Array Value} (f : Nat) (hle : f ≤ 10000) (hk : kindsOf P f t = some ks) (ht : P.keyTypeAt f t = true) (hc : P.cellsOf t = ks.length)
    (hagg : (match P.underlying t with | some (.struct _) | some (.array _ _) => true | _ => false) = true) (hx : Flat ks xs.toList) (w : World) :
    (Op.equalIn 10000 t (.agg xs) (.agg xs)).run P w = .ok true w := by
  obtain ⟨r, h, e⟩ := same_flat f hle hk ht hc hagg hx hx w
  rw [h, e.2 rfl]
theorem same_no {t : TypeId} {ks : List CK} {xs ys : Array Value} (f : Nat) (hle : f ≤ 10000) (hk : kindsOf P f t = some ks) (ht : P.keyTypeAt f t = true) (hc : P.cellsOf t = ks.length)
    (hagg : (match P.underlying t with | some (.struct _) | some (.array _ _) => true | _ => false) = true) (hx : Flat ks xs.toList) (hy : Flat ks ys.toList) (hne : xs ≠ ys) (w : World) :
    (Op.equalIn 10000 t (.agg xs) (.agg ys)).run P w = .ok false w := by
  obtain ⟨r, h, e⟩ := same_flat f hle hk ht hc hagg hx hy w
  rw [h]
  cases r
  · rfl
  · exact absurd (e.1 rfl) hne
end
end Go.Proofs.Ytfncipoiblieeaa
