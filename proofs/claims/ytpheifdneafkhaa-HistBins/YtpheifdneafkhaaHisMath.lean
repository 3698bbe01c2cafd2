/- How long things took, as plain numbers: where what was noted stands in the array of buckets and bins. No model in it. -/
import Derived.Test.YtpheifdneafkhaaWinMath
import Derived.Test.YtpheifdneafkhaaCells
namespace Go.Proofs.Ytpheifdneafkhaa
set_option linter.unusedVariables false

/-- Where what was counted stands: the bucket q at q % B, 65 cells each; nothing else is there. -/
structure LayH (B t : Nat) (F : Cnt) (Z : List Int) : Prop where
  len : Z.length = 520
  here : ∀ q k, q ≤ t → t < q + B → k < 65 → Z[65 * (q % B) + k]? = some (F q k)
  none : ∀ p k, p < 8 → k < 65 → (∀ q, q ≤ t → t < q + B → q % B ≠ p) → Z[65 * p + k]? = some 0
  later : ∀ q k, t < q → F q k = 0
  bd : ∀ q k, 0 ≤ F q k ∧ F q k ≤ 18446744073709551615

theorem LayH.new (B : Nat) (t : Nat) (hB : 1 ≤ B) (hB8 : B ≤ 8) : LayH B t (fun _ _ => 0) (List.replicate 520 0) := by
  refine ⟨List.length_replicate, fun q k h1 h2 hk => ?_, fun p k hp hk _ => ?_, fun _ _ _ => rfl, fun _ _ => by omega⟩
  · have := Nat.mod_lt q (show 0 < B by omega)
    rw [List.getElem?_replicate, if_pos (by omega)]
  · rw [List.getElem?_replicate, if_pos (by omega)]

/-- The array when the places of the i buckets up to t are cleared. -/
def ClrH (B t i : Nat) (Z Z' : List Int) : Prop := Z'.length = 520 ∧ ∀ p k, p < 8 → k < 65 → ((∃ j, j < i ∧ (t - j) % B = p) → Z'[65 * p + k]? = some 0) ∧ ((∀ j, j < i → (t - j) % B ≠ p) → Z'[65 * p + k]? = Z[65 * p + k]?)

theorem LayH.reach {B t t' : Nat} {F : Cnt} {Z Z' : List Int} (h : LayH B t F Z) (hB : 1 ≤ B) (hB8 : B ≤ 8) (ht : t ≤ t') {m : Nat} (hm : m = if t' - t < B then t' - t else B) (hc : ClrH B t' m Z Z') : LayH B t' F Z' := by
  have hmB : m ≤ B ∧ m ≤ t' - t ∧ (m < B → m = t' - t) := by rw [hm]; split <;> omega
  clear hm
  have hlt : ∀ q, q % B < 8 := fun q => by have := Nat.mod_lt q (show 0 < B by omega); omega
  refine ⟨hc.1, fun q k h1 h2 hk => ?_, fun p k hp hk hno => ?_, fun q k hq => h.later q k (by omega), h.bd⟩
  · by_cases hq : q ≤ t
    · rw [(hc.2 (q % B) k (hlt q) hk).2 (fun j hj => (mod_apart (q := q) (q' := t' - j) (by omega) (by omega) hB hB8).symm)]
      exact h.here q k hq (by omega) hk
    · rw [(hc.2 (q % B) k (hlt q) hk).1 ⟨t' - q, by omega, by rw [show t' - (t' - q) = q by omega]⟩, h.later q k (by omega)]
  · by_cases hj : ∃ j, j < m ∧ (t' - j) % B = p
    · exact (hc.2 p k hp hk).1 hj
    · rw [(hc.2 p k hp hk).2 (fun j hj' he => hj ⟨j, hj', he⟩)]
      refine h.none p k hp hk fun q h1 h2 he => ?_
      obtain ⟨q', a, b, c⟩ := mod_up (q := q) (t := t') (by omega) hB hB8
      exact hno q' a b (c.trans he)

theorem LayH.add {B t k : Nat} {F : Cnt} {Z : List Int} {x : Int} (h : LayH B t F Z) (hB : 1 ≤ B) (hB8 : B ≤ 8) (hk : k < 65) (hx : 0 ≤ x ∧ x ≤ 18446744073709551615) : LayH B t (upd F t k x) (Z.set (65 * (t % B) + k) x) := by
  have htB := Nat.mod_lt t (show 0 < B by omega)
  refine ⟨by simp [h.len], fun q j h1 h2 hj => ?_, fun p j hp hj hno => ?_, fun q j hq => ?_, fun q j => ?_⟩
  · by_cases he : q = t ∧ j = k
    · obtain ⟨rfl, rfl⟩ := he
      rw [upd_same, List.getElem?_set_self (by rw [h.len]; omega)]
    · rw [upd_other he, List.getElem?_set_ne, h.here q j h1 h2 hj]
      intro e
      by_cases hq : q = t
      · subst hq; omega
      · have := mod_apart (q := q) (q' := t) (by omega) h2 hB hB8
        omega
  · have := hno t (by omega) (by omega)
    rw [List.getElem?_set_ne (by omega), h.none p j hp hj hno]
  · rw [upd_other (by omega)]; exact h.later q j hq
  · by_cases he : q = t ∧ j = k
    · obtain ⟨rfl, rfl⟩ := he; rw [upd_same]; exact hx
    · rw [upd_other he]; exact h.bd q j

theorem LayH.tot {B t k : Nat} {F : Cnt} {Z : List Int} (h : LayH B t F Z) (hB : 1 ≤ B) (hB8 : B ≤ 8) (hk : k < 65) : sumN (fun j => Z.getD (65 * j + k) 0) 8 = Go.Proofs.Ytpheifdneafkhaa.tot F t k B := by
  have e0 : ∀ n, n < B → (if n ≤ t then F (t - n) k else 0) = Z.getD (65 * ((t % B + B - n) % B) + k) 0 := by
    intro n hn
    have hp : (t % B + B - n) % B < 8 := by have := Nat.mod_lt (t % B + B - n) (show 0 < B by omega); omega
    by_cases hnt : n ≤ t
    · rw [if_pos hnt]
      have e : (t % B + B - n) % B = (t - n) % B := by
        rcases (show B = 1 ∨ B = 2 ∨ B = 3 ∨ B = 4 ∨ B = 5 ∨ B = 6 ∨ B = 7 ∨ B = 8 by omega) with rfl | rfl | rfl | rfl | rfl | rfl | rfl | rfl <;> omega
      rw [e, List.getD_eq_getElem?_getD, h.here (t - n) k (by omega) (by omega) hk]
      rfl
    · rw [if_neg hnt, List.getD_eq_getElem?_getD, h.none _ k hp hk]
      · rfl
      · intro q h1 h2
        rcases (show B = 1 ∨ B = 2 ∨ B = 3 ∨ B = 4 ∨ B = 5 ∨ B = 6 ∨ B = 7 ∨ B = 8 by omega) with rfl | rfl | rfl | rfl | rfl | rfl | rfl | rfl <;> omega
  have e1 : Go.Proofs.Ytpheifdneafkhaa.tot F t k B = sumN (fun j => Z.getD (65 * j + k) 0) B := by
    unfold Go.Proofs.Ytpheifdneafkhaa.tot
    rw [sumN_congr e0]
    exact rot (fun j => Z.getD (65 * j + k) 0) B (t % B) hB hB8 (Nat.mod_lt _ (by omega))
  rw [e1]
  have e2 : ∀ d, B + d ≤ 8 → sumN (fun j => Z.getD (65 * j + k) 0) (B + d) = sumN (fun j => Z.getD (65 * j + k) 0) B := by
    intro d
    induction d with
    | zero => intro _; rfl
    | succ d ih =>
      intro hd
      rw [show B + (d + 1) = (B + d) + 1 by omega]
      simp only [sumN]
      rw [ih (by omega), List.getD_eq_getElem?_getD, h.none (B + d) k (by omega) hk (fun q _ _ he => by have := Nat.mod_lt q (show 0 < B by omega); omega)]
      simp
  have := e2 (8 - B) (by omega)
  rwa [show B + (8 - B) = 8 by omega] at this

theorem LayH.cell {B t : Nat} {F : Cnt} {Z : List Int} (h : LayH B t F Z) (hB : 1 ≤ B) (hB8 : B ≤ 8) (q : Nat) : 0 ≤ Z.getD q 0 ∧ Z.getD q 0 ≤ 18446744073709551615 := by
  by_cases hq : q < 520
  · rw [List.getD_eq_getElem?_getD]
    have e : q = 65 * (q / 65) + q % 65 := by omega
    by_cases hx : ∃ q', q' ≤ t ∧ t < q' + B ∧ q' % B = q / 65
    · obtain ⟨q', h1, h2, h3⟩ := hx
      rw [e, ← h3, h.here q' (q % 65) h1 h2 (by omega)]
      exact h.bd _ _
    · rw [e, h.none (q / 65) (q % 65) (by omega) (by omega) (fun q' h1 h2 h3 => hx ⟨q', h1, h2, h3⟩)]
      simp
  · rw [List.getD_eq_getElem?_getD, List.getElem?_eq_none (by rw [h.len]; omega)]
    simp
theorem ClrH.step {B t i p : Nat} {Z Z' : List Int} (h : ClrH B t i Z Z') (hp : (t - i) % B = p) (hp8 : p < 8) : ClrH B t (i + 1) Z (put Z' (p * 65) (List.replicate 65 0)) := by
  have hl := h.1
  refine ⟨by rw [put_len]; exact hl, fun p' k h1 h2 => ?_⟩
  by_cases he : p' = p
  · subst he
    have e : (put Z' (p' * 65) (List.replicate 65 0))[65 * p' + k]? = some 0 := by
      rw [show 65 * p' + k = p' * 65 + k by omega, put_in _ _ _ _ (by simpa using h2) (by omega), List.getElem?_replicate, if_pos h2]
    exact ⟨fun _ => e, fun hno => absurd hp (hno i (by omega))⟩
  · have e : (put Z' (p * 65) (List.replicate 65 0))[65 * p' + k]? = Z'[65 * p' + k]? := put_out _ _ _ _ (by simp; omega)
    rw [e]
    refine ⟨fun ⟨j, hj, hj'⟩ => (h.2 p' k h1 h2).1 ⟨j, ?_, hj'⟩, fun hno => (h.2 p' k h1 h2).2 (fun j hj => hno j (by omega))⟩
    by_cases hji : j = i
    · subst hji; exact absurd (hj'.symm.trans hp) he
    · omega

end Go.Proofs.Ytpheifdneafkhaa
