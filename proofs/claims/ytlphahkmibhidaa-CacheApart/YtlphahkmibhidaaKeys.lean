/- Keys of maps that are plain structs or arrays: what reads as a key is plain data of that type, and the key's literal is that of its cells. No package's types. -/
import Derived.Test.YtlphahkmibhidaaSame
import Derived.Test.YtlphahkmibhidaaBlk
import Derived.DeepKeys4
import Derived.Maps.OwnSet
namespace Go.Proofs.Ytlphahkmibhidaa
set_option linter.unusedVariables false
open Go.ChangeShapes Go.WideShapes Go.ChangeAt Go.RowKit Go.Deep

theorem laid_out_k : laidOutB Try.prog = true := by kernel_rfl
section
variable {P : Program}
theorem flat_fields' {g : TypeId → Option (List CK)} {C : TypeId → List Value → Prop} (hg : ∀ t ks cs, g t = some ks → C t cs → Flat ks cs) :
    ∀ (fs : List Field) (off : Nat) (ks : List CK) (cs : List Value), fieldKinds P g fs off = some ks → cs.length = off + ks.length →
      (∀ fd ∈ fs, C fd.type ((cs.drop fd.offset).take (P.cellsOf fd.type))) → Flat ks (cs.drop off)
  | [], off, ks, cs, h, hl, _ => by
    simp only [fieldKinds, Option.some.injEq] at h
    subst h
    rw [List.drop_of_length_le (by simp at hl; omega)]
    trivial
  | fd :: fs, off, ks, cs, h, hl, hx => by
    simp only [fieldKinds, Option.bind_eq_some_iff] at h
    obtain ⟨l, h1, h⟩ := h
    split at h
    · rename_i hc
      simp only [Option.map_eq_some_iff] at h
      obtain ⟨l', h2, rfl⟩ := h
      have f1 := hg _ _ _ h1 (hx fd (by simp))
      rw [hc.1, hc.2] at f1
      have f2 := flat_fields' hg fs (off + l.length) l' cs h2 (by simp at hl; omega) (fun fd' hm => hx fd' (by simp [hm]))
      have e : cs.drop off = (cs.drop off).take l.length ++ cs.drop (off + l.length) := by
        rw [← List.drop_drop, List.take_append_drop]
      rw [e]
      exact f1.append f2
    · cases h
theorem mapM_at {α β : Type} {f : α → Option β} : ∀ {l : List α} {r : List β}, l.mapM f = some r → ∀ a ∈ l, ∃ b, f a = some b
  | [], _, _, a, ha => by simp at ha
  | x :: l, r, h, a, ha => by
    rw [List.mapM_cons] at h
    simp only [bind, Option.bind_eq_some_iff] at h
    obtain ⟨b, hb, h⟩ := h
    obtain ⟨bs, hbs, _⟩ := h
    rcases List.mem_cons.1 ha with rfl | ha
    · exact ⟨b, hb⟩
    · exact mapM_at hbs a ha
theorem flat_of_lits : ∀ (f : Nat) (t : TypeId) (ks : List CK) (d : Nat) (cs : List Value) (ls : List Lit), kindsOf P f t = some ks → P.keyLits d t cs = some ls → Flat ks cs
  | 0, _, _, _, _, _, h, _ => by simp [kindsOf] at h
  | _ + 1, _, _, 0, _, _, _, hx => by simp [Program.keyLits] at hx
  | f + 1, t, ks, d + 1, cs, ls, h, hx => by
    unfold kindsOf at h
    unfold Program.keyLits at hx
    split at h
    · rename_i ht
      rw [ht] at hx
      cases h
      split at hx <;> simp_all
      exact ⟨⟨_, rfl⟩, trivial⟩
    · rename_i k ht
      rw [ht] at hx
      cases h
      split at hx <;> simp_all
      obtain ⟨⟨rfl, hw⟩, _⟩ := hx
      exact ⟨⟨_, rfl, hw⟩, trivial⟩
    · rename_i ht
      rw [ht] at hx
      cases h
      split at hx <;> simp_all
      obtain ⟨hw, _⟩ := hx
      exact ⟨⟨_, rfl, hw⟩, trivial⟩
    · rename_i fs ht
      rw [ht] at hx
      simp only [Option.bind_eq_some_iff] at h
      obtain ⟨l, h1, h⟩ := h
      split at h
      · rename_i hc
        cases h
        simp only at hx
        split at hx
        · rename_i hl
          simp only [Option.map_eq_some_iff] at hx
          obtain ⟨Ls, hLs, _⟩ := hx
          have := flat_fields' (P := P) (g := kindsOf P f) (C := fun t us => ∃ ls, P.keyLits d t us = some ls) (fun t ks us a ⟨ls, b⟩ => flat_of_lits f t ks d us ls a b) fs.toList 0 ks cs h1 (by rw [hl.1, hc]; omega) (fun fd hm => mapM_at hLs fd hm)
          simpa using this
        · cases hx
      · cases h
    · rename_i n e ht
      rw [ht] at hx
      simp only [Option.bind_eq_some_iff] at h
      obtain ⟨l, h1, h⟩ := h
      split at h
      · rename_i hc
        cases h
        simp only at hx
        split at hx
        · rename_i hl
          simp only [Option.map_eq_some_iff] at hx
          obtain ⟨Ls, hLs, _⟩ := hx
          refine flat_items n cs (by omega) fun i hi => ?_
          obtain ⟨b, hb⟩ := mapM_at hLs i (by simpa using hi)
          rw [hc.1] at hb
          exact flat_of_lits f e l d _ b h1 hb
        · cases hx
      · cases h
    · cases h

/-- The key that a plain struct or array reads as. -/
theorem key_flat {t : TypeId} {ks : List CK} {cs : Array Value} (hk : kindsOf P (P.types.size + 1) t = some ks) (ht : P.keyTypeAt (P.types.size + 1) t = true) (hc : P.cellsOf t = ks.length)
    (hagg : (match P.underlying t with | some (.struct _) | some (.array _ _) => true | _ => false) = true) (hx : Flat ks cs.toList) : keyOf P t (.agg cs) = some (.string (keyBytes (cs.toList.map vlit))) := by
  have hl := lits_flat (P := P) (P.types.size + 1) t ks cs.toList hk ht hx
  have fm : Value.formed P t (.agg cs) = true := by
    have := hx.length
    simp only [Array.length_toList] at this
    unfold Value.formed
    split at hagg <;> simp_all
  unfold keyOf
  split
  · simp only [Program.keyType, ht, fm, Bool.and_self, if_true]
    show (P.keyLits (P.types.size + 1) t cs.toList).map _ = _
    rw [hl]
    rfl
  · simp only [Program.keyType, ht, fm, Bool.and_self, if_true]
    show (P.keyLits (P.types.size + 1) t cs.toList).map _ = _
    rw [hl]
    rfl
  · split at hagg <;> simp_all
/-- What reads as a key of such a type is plain data of it. -/
theorem key_flat_inv {t : TypeId} {ks : List CK} {v : Value} {kl : Lit} (f : Nat) (hk : kindsOf P f t = some ks)
    (hagg : (match P.underlying t with | some (.struct _) | some (.array _ _) => true | _ => false) = true) (h : keyOf P t v = some kl) : ∃ cs : Array Value, v = .agg cs ∧ Flat ks cs.toList := by
  have go : (if P.keyType t && v.formed P t then (P.keyLits (P.types.size + 1) t v.cells.toList).map fun ls => Lit.string (keyBytes ls) else none) = some kl := by
    unfold keyOf at h
    split at hagg <;> simp_all
  split at go
  · rename_i hc
    simp only [Bool.and_eq_true] at hc
    simp only [Option.map_eq_some_iff] at go
    obtain ⟨ls, h1, _⟩ := go
    have fm := hc.2
    unfold Value.formed at fm
    cases v with
    | agg cs => exact ⟨cs, rfl, flat_of_lits f t ks _ _ _ hk h1⟩
    | _ => split at hagg <;> simp_all
  · cases go
/-- A map's bound can be lowered to its size. -/
theorem lower_map {H : Type} {k : TypeId} {R : Value → Option (DataW H × List MemPlace)} {w : World} {m n : Nat} {D : DataW H} (h : w.ownsMap P k R m n D) : w.ownsMap P k R m (Maps.size D) D := by
  obtain ⟨es, clock, hb, F, hs, rfl⟩ := h
  exact ⟨es, clock, hb, F, by simp [Maps.size, length_sorted], rfl⟩
theorem ownsMap_keep {H : Type} {k : TypeId} {R : Value → Option (DataW H × List MemPlace)} {w w' : World} {m n : Nat} {D : DataW H} (h : w.ownsMap P k R m n D) (hk : w'.heap[m]? = w.heap[m]?) : w'.ownsMap P k R m n D := by
  obtain ⟨es, clock, hb, hr⟩ := h
  exact ⟨es, clock, hk.trans hb, hr⟩
end
end Go.Proofs.Ytlphahkmibhidaa
