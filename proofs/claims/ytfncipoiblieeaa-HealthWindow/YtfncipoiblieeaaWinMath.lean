/- Windows, as plain numbers: what was counted in each bucket, and where it stands in the array. No model in it. -/
import Derived.Test.YtfncipoiblieeaaSatAdd
namespace Go.Proofs.Ytfncipoiblieeaa
set_option linter.unusedVariables false

/-- What was counted: bucket, kind. -/
abbrev Cnt := Nat → Nat → Int
def satS (x : Int) : Int := if x ≤ 18446744073709551615 then x else 18446744073709551615
theorem satS_bd {x : Int} (h : 0 ≤ x) : 0 ≤ satS x ∧ satS x ≤ 18446744073709551615 := by unfold satS; split <;> omega
theorem satS_of {x : Int} (h : x ≤ 18446744073709551615) : satS x = x := by unfold satS; rw [if_pos h]
theorem addS_satS {a b : Int} (ha : 0 ≤ a) (hb : 0 ≤ b) : addS (satS a) b = satS (a + b) := by unfold addS satS; split <;> split <;> (first | omega | (split <;> omega))
theorem addS_eq (a b : Int) : addS a b = satS (a + b) := rfl

def sumN (f : Nat → Int) : Nat → Int
  | 0 => 0
  | n + 1 => sumN f n + f n
theorem sumN_congr {f g : Nat → Int} : ∀ {n : Nat}, (∀ i, i < n → f i = g i) → sumN f n = sumN g n
  | 0, _ => rfl
  | n + 1, h => by simp only [sumN]; rw [sumN_congr (fun i hi => h i (by omega)), h n (by omega)]
theorem sumN_zero {f : Nat → Int} : ∀ {n : Nat}, (∀ i, i < n → f i = 0) → sumN f n = 0
  | 0, _ => rfl
  | n + 1, h => by simp only [sumN]; rw [sumN_zero (fun i hi => h i (by omega)), h n (by omega)]; rfl
theorem sumN_nonneg {f : Nat → Int} : ∀ {n : Nat}, (∀ i, i < n → 0 ≤ f i) → 0 ≤ sumN f n
  | 0, _ => by simp [sumN]
  | n + 1, h => by have := sumN_nonneg (f := f) (n := n) (fun i hi => h i (by omega)); have := h n (by omega); simp only [sumN]; omega
theorem sumN_add {f g h : Nat → Int} : ∀ {n : Nat}, (∀ i, i < n → f i = g i + h i) → sumN f n = sumN g n + sumN h n
  | 0, _ => rfl
  | n + 1, e => by simp only [sumN]; rw [sumN_add (f := f) (g := g) (h := h) (fun i hi => e i (by omega)), e n (by omega)]; omega
theorem sumN_le {f : Nat → Int} {c : Int} : ∀ {n : Nat}, (∀ i, i < n → f i ≤ c) → sumN f n ≤ n * c
  | 0, _ => by simp [sumN]
  | n + 1, h => by
    have h1 := sumN_le (f := f) (c := c) (n := n) (fun i hi => h i (by omega))
    have h2 := h n (by omega)
    have e : ((n + 1 : Nat) : Int) * c = n * c + c := by rw [Int.natCast_add, Int.add_mul]; simp
    simp only [sumN]; rw [e]; omega

/-- What the n buckets up to t hold of a kind. -/
def tot (F : Cnt) (t k n : Nat) : Int := sumN (fun i => if i ≤ t then F (t - i) k else 0) n

/-- Where what was counted stands: the bucket q at q % B, five cells each; nothing else is there. -/
structure Lay (B t : Nat) (F : Cnt) (Z : List Int) : Prop where
  len : Z.length = 40
  here : ∀ q k, q ≤ t → t < q + B → k < 5 → Z[5 * (q % B) + k]? = some (F q k)
  none : ∀ p k, p < 8 → k < 5 → (∀ q, q ≤ t → t < q + B → q % B ≠ p) → Z[5 * p + k]? = some 0
  later : ∀ q k, t < q → F q k = 0
  bd : ∀ q k, 0 ≤ F q k ∧ F q k ≤ 18446744073709551615

theorem mod_apart {B q q' : Nat} (h1 : q < q') (h2 : q' < q + B) (hB : 1 ≤ B) (hB8 : B ≤ 8) : q % B ≠ q' % B := by
  rcases (show B = 1 ∨ B = 2 ∨ B = 3 ∨ B = 4 ∨ B = 5 ∨ B = 6 ∨ B = 7 ∨ B = 8 by omega) with rfl | rfl | rfl | rfl | rfl | rfl | rfl | rfl <;> omega
theorem mod_up {B q t : Nat} (h : q ≤ t) (hB : 1 ≤ B) (hB8 : B ≤ 8) : ∃ q', q' ≤ t ∧ t < q' + B ∧ q' % B = q % B := by
  refine ⟨t - (t - q) % B, ?_⟩
  rcases (show B = 1 ∨ B = 2 ∨ B = 3 ∨ B = 4 ∨ B = 5 ∨ B = 6 ∨ B = 7 ∨ B = 8 by omega) with rfl | rfl | rfl | rfl | rfl | rfl | rfl | rfl <;> omega

theorem Lay.new (B : Nat) (t : Nat) (hB : 1 ≤ B) (hB8 : B ≤ 8) : Lay B t (fun _ _ => 0) (List.replicate 40 0) := by
  refine ⟨rfl, fun q k h1 h2 hk => ?_, fun p k hp hk _ => ?_, fun _ _ _ => rfl, fun _ _ => by omega⟩
  · have := Nat.mod_lt q (show 0 < B by omega)
    rw [List.getElem?_replicate, if_pos (by omega)]
  · rw [List.getElem?_replicate, if_pos (by omega)]

/-- The array when the places of the i buckets up to t are cleared. -/
def Clr (B t i : Nat) (Z Z' : List Int) : Prop := Z'.length = 40 ∧ ∀ p k, p < 8 → k < 5 → ((∃ j, j < i ∧ (t - j) % B = p) → Z'[5 * p + k]? = some 0) ∧ ((∀ j, j < i → (t - j) % B ≠ p) → Z'[5 * p + k]? = Z[5 * p + k]?)

theorem Lay.reach {B t t' : Nat} {F : Cnt} {Z Z' : List Int} (h : Lay B t F Z) (hB : 1 ≤ B) (hB8 : B ≤ 8) (ht : t ≤ t') {m : Nat} (hm : m = if t' - t < B then t' - t else B) (hc : Clr B t' m Z Z') : Lay B t' F Z' := by
  have hmB : m ≤ B ∧ m ≤ t' - t ∧ (m < B → m = t' - t) := by rw [hm]; split <;> omega
  clear hm
  have hlt : ∀ q, q % B < 8 := fun q => by have := Nat.mod_lt q (show 0 < B by omega); omega
  refine ⟨hc.1, fun q k h1 h2 hk => ?_, fun p k hp hk hno => ?_, fun q k hq => h.later q k (by omega), h.bd⟩
  · by_cases hq : q ≤ t
    · rw [(hc.2 (q % B) k (hlt q) hk).2 (fun j hj => (mod_apart (q := q) (q' := t' - j) (by omega) (by omega) hB hB8).symm)]
      exact h.here q k hq (by omega) hk
    · rw [(hc.2 (q % B) k (hlt q) hk).1 ⟨t' - q, by omega, by rw [show t' - (t' - q) = q by omega]⟩, h.later q k (by omega)]
  · by_cases hj : ∃ j, j < m ∧ (t' - j) % B = p
    · exact (hc.2 p k hp hk).1 hj
    · rw [(hc.2 p k hp hk).2 (fun j hj' he => hj ⟨j, hj', he⟩)]
      refine h.none p k hp hk fun q h1 h2 he => ?_
      obtain ⟨q', a, b, c⟩ := mod_up (q := q) (t := t') (by omega) hB hB8
      exact hno q' a b (c.trans he)

def upd (F : Cnt) (t k : Nat) (x : Int) : Cnt := fun q j => if q = t ∧ j = k then x else F q j
theorem upd_same (F : Cnt) (t k : Nat) (x : Int) : upd F t k x t k = x := by simp [upd]
theorem upd_other {F : Cnt} {t k : Nat} {x : Int} {q j : Nat} (h : ¬ (q = t ∧ j = k)) : upd F t k x q j = F q j := by simp only [upd, if_neg h]

theorem Lay.add {B t k : Nat} {F : Cnt} {Z : List Int} {x : Int} (h : Lay B t F Z) (hB : 1 ≤ B) (hB8 : B ≤ 8) (hk : k < 5) (hx : 0 ≤ x ∧ x ≤ 18446744073709551615) : Lay B t (upd F t k x) (Z.set (5 * (t % B) + k) x) := by
  have htB := Nat.mod_lt t (show 0 < B by omega)
  refine ⟨by simp [h.len], fun q j h1 h2 hj => ?_, fun p j hp hj hno => ?_, fun q j hq => ?_, fun q j => ?_⟩
  · by_cases he : q = t ∧ j = k
    · obtain ⟨rfl, rfl⟩ := he
      rw [upd_same, List.getElem?_set_self (by rw [h.len]; omega)]
    · rw [upd_other he, List.getElem?_set_ne, h.here q j h1 h2 hj]
      intro e
      by_cases hq : q = t
      · subst hq; omega
      · have := mod_apart (q := q) (q' := t) (by omega) h2 hB hB8
        omega
  · have := hno t (by omega) (by omega)
    rw [List.getElem?_set_ne (by omega), h.none p j hp hj hno]
  · rw [upd_other (by omega)]; exact h.later q j hq
  · by_cases he : q = t ∧ j = k
    · obtain ⟨rfl, rfl⟩ := he; rw [upd_same]; exact hx
    · rw [upd_other he]; exact h.bd q j

/-! ### what is told -/
theorem rot (G : Nat → Int) (B r : Nat) (hB : 1 ≤ B) (hB8 : B ≤ 8) (hr : r < B) : sumN (fun n => G ((r + B - n) % B)) B = sumN G B := by
  rcases (show B = 1 ∨ B = 2 ∨ B = 3 ∨ B = 4 ∨ B = 5 ∨ B = 6 ∨ B = 7 ∨ B = 8 by omega) with rfl | rfl | rfl | rfl | rfl | rfl | rfl | rfl <;>
  rcases (show r = 0 ∨ r = 1 ∨ r = 2 ∨ r = 3 ∨ r = 4 ∨ r = 5 ∨ r = 6 ∨ r = 7 by omega) with rfl | rfl | rfl | rfl | rfl | rfl | rfl | rfl <;>
  first | omega | (simp [sumN]; try omega)

theorem Lay.tot {B t k : Nat} {F : Cnt} {Z : List Int} (h : Lay B t F Z) (hB : 1 ≤ B) (hB8 : B ≤ 8) (hk : k < 5) : sumN (fun j => Z.getD (5 * j + k) 0) 8 = Go.Proofs.Ytfncipoiblieeaa.tot F t k B := by
  have e0 : ∀ n, n < B → (if n ≤ t then F (t - n) k else 0) = Z.getD (5 * ((t % B + B - n) % B) + k) 0 := by
    intro n hn
    have hp : (t % B + B - n) % B < 8 := by have := Nat.mod_lt (t % B + B - n) (show 0 < B by omega); omega
    by_cases hnt : n ≤ t
    · rw [if_pos hnt]
      have e : (t % B + B - n) % B = (t - n) % B := by
        rcases (show B = 1 ∨ B = 2 ∨ B = 3 ∨ B = 4 ∨ B = 5 ∨ B = 6 ∨ B = 7 ∨ B = 8 by omega) with rfl | rfl | rfl | rfl | rfl | rfl | rfl | rfl <;> omega
      rw [e, List.getD_eq_getElem?_getD, h.here (t - n) k (by omega) (by omega) hk]
      rfl
    · rw [if_neg hnt, List.getD_eq_getElem?_getD, h.none _ k hp hk]
      · rfl
      · intro q h1 h2
        rcases (show B = 1 ∨ B = 2 ∨ B = 3 ∨ B = 4 ∨ B = 5 ∨ B = 6 ∨ B = 7 ∨ B = 8 by omega) with rfl | rfl | rfl | rfl | rfl | rfl | rfl | rfl <;> omega
  have e1 : Go.Proofs.Ytfncipoiblieeaa.tot F t k B = sumN (fun j => Z.getD (5 * j + k) 0) B := by
    unfold Go.Proofs.Ytfncipoiblieeaa.tot
    rw [sumN_congr e0]
    exact rot (fun j => Z.getD (5 * j + k) 0) B (t % B) hB hB8 (Nat.mod_lt _ (by omega))
  rw [e1]
  have e2 : ∀ d, B + d ≤ 8 → sumN (fun j => Z.getD (5 * j + k) 0) (B + d) = sumN (fun j => Z.getD (5 * j + k) 0) B := by
    intro d
    induction d with
    | zero => intro _; rfl
    | succ d ih =>
      intro hd
      rw [show B + (d + 1) = (B + d) + 1 by omega]
      simp only [sumN]
      rw [ih (by omega), List.getD_eq_getElem?_getD, h.none (B + d) k (by omega) hk (fun q _ _ he => by have := Nat.mod_lt q (show 0 < B by omega); omega)]
      simp
  have := e2 (8 - B) (by omega)
  rwa [show B + (8 - B) = 8 by omega] at this

/-! ### sums of what was counted -/
theorem tot_zero {F : Cnt} {t k : Nat} (n : Nat) (h : ∀ q, q ≤ t → F q k = 0) : tot F t k n = 0 := sumN_zero fun i _ => by
  by_cases hi : i ≤ t
  · rw [if_pos hi]; exact h _ (by omega)
  · rw [if_neg hi]
theorem tot_one {F : Cnt} {t k q0 : Nat} {x : Int} (h0 : F q0 k = x) (h : ∀ q, q ≠ q0 → F q k = 0) : ∀ n, tot F t k n = if q0 ≤ t ∧ t < q0 + n then x else 0
  | 0 => by rw [if_neg (by omega)]; rfl
  | n + 1 => by
    have ih := tot_one (t := t) h0 h n
    unfold tot at ih ⊢
    simp only [sumN]
    rw [ih]
    by_cases h1 : q0 ≤ t ∧ t < q0 + n
    · rw [if_pos h1, if_pos (show q0 ≤ t ∧ t < q0 + (n + 1) by omega)]
      by_cases hn : n ≤ t
      · rw [if_pos hn, h (t - n) (by omega)]; omega
      · rw [if_neg hn]; omega
    · rw [if_neg h1]
      by_cases h2 : q0 ≤ t ∧ t < q0 + (n + 1)
      · rw [if_pos h2, if_pos (by omega), show t - n = q0 by omega, h0]; omega
      · rw [if_neg h2]
        by_cases hn : n ≤ t
        · rw [if_pos hn, h (t - n) (by omega)]; rfl
        · rw [if_neg hn]; rfl
theorem sat_none (t k n : Nat) : satS (tot (fun _ _ => 0) t k n) = 0 := by rw [tot_zero (F := fun _ _ => 0) n (fun _ _ => rfl)]; rfl
theorem sat_one {q k : Nat} {x : Int} (t i n : Nat) (hx : x ≤ 18446744073709551615) : satS (tot (upd (fun _ _ => 0) q k x) t i n) = if i = k ∧ q ≤ t ∧ t < q + n then x else 0 := by
  by_cases hi : i = k
  · subst hi
    rw [tot_one (F := upd (fun _ _ => 0) q i x) (t := t) (upd_same _ _ _ _) (fun q' hq => upd_other (by omega)) n]
    by_cases h : q ≤ t ∧ t < q + n
    · rw [if_pos h, if_pos ⟨rfl, h⟩]; exact satS_of hx
    · rw [if_neg h, if_neg (fun h' => h h'.2)]; rfl
  · rw [if_neg (fun h => hi h.1), tot_zero (F := upd (fun _ _ => 0) q k x) n (fun q' _ => upd_other (by omega))]; rfl
theorem tot_nonneg {F : Cnt} {t k n : Nat} (h : ∀ q, 0 ≤ F q k) : 0 ≤ tot F t k n := sumN_nonneg fun i _ => by
  by_cases hi : i ≤ t
  · rw [if_pos hi]; exact h _
  · rw [if_neg hi]; omega
theorem tot_add {F G H : Cnt} {t k n : Nat} (h : ∀ q, F q k = G q k + H q k) : tot F t k n = tot G t k n + tot H t k n := sumN_add fun i _ => by
  by_cases hi : i ≤ t
  · rw [if_pos hi, if_pos hi, if_pos hi]; exact h _
  · rw [if_neg hi, if_neg hi, if_neg hi]; rfl
theorem tot_le {F : Cnt} {t k n : Nat} {c : Int} (h0 : 0 ≤ c) (h : ∀ q, F q k ≤ c) : tot F t k n ≤ n * c := sumN_le fun i _ => by
  by_cases hi : i ≤ t
  · rw [if_pos hi]; exact h _
  · rw [if_neg hi]; exact h0
end Go.Proofs.Ytfncipoiblieeaa
