/- Contracts of the functions that the statement DepNobody reaches, part 2 of 5. -/
import Derived.Test.YtgnccpmkdgfjeaaGreatPart1
import Derived.Deep.LoopGhost
import Derived.Deep.RegionLaw
import Derived.Laws.BitsAllLaws
import Derived.WalkLawsBesides
import Derived.Handy
import Derived.Outline
import Derived.Lib.Mul64
import Derived.Laws.Bits64b
import Derived.Deep.RegionHeld3
import Derived.Deep.DeepCutAuto
import Derived.DeepKeys4
import Derived.Maps.OwnSet
import Derived.Maps.RangeWalk
import Derived.Maps.OwnRows
import Derived.Laws.OwnMore
import Derived.OwnWalk
import Derived.Maps.AppendAt
import Derived.Deep.MidRow
import Derived.BigQuiet
namespace Go.Proofs.YtgnccpmkdgfjeaaGreat
set_option linter.unusedVariables false

/-- What was counted: bucket, kind. -/
abbrev Cnt := Nat → Nat → Int
def satS (x : Int) : Int := if x ≤ 18446744073709551615 then x else 18446744073709551615
theorem satS_bd {x : Int} (h : 0 ≤ x) : 0 ≤ satS x ∧ satS x ≤ 18446744073709551615 := by unfold satS; split <;> omega
theorem satS_of {x : Int} (h : x ≤ 18446744073709551615) : satS x = x := by unfold satS; rw [if_pos h]
theorem addS_satS {a b : Int} (ha : 0 ≤ a) (hb : 0 ≤ b) : addS (satS a) b = satS (a + b) := by unfold addS satS; split <;> split <;> (first | omega | (split <;> omega))
theorem addS_eq (a b : Int) : addS a b = satS (a + b) := rfl

def sumN (f : Nat → Int) : Nat → Int
  | 0 => 0
  | n + 1 => sumN f n + f n
theorem sumN_congr {f g : Nat → Int} : ∀ {n : Nat}, (∀ i, i < n → f i = g i) → sumN f n = sumN g n
  | 0, _ => rfl
  | n + 1, h => by simp only [sumN]; rw [sumN_congr (fun i hi => h i (by omega)), h n (by omega)]
theorem sumN_zero {f : Nat → Int} : ∀ {n : Nat}, (∀ i, i < n → f i = 0) → sumN f n = 0
  | 0, _ => rfl
  | n + 1, h => by simp only [sumN]; rw [sumN_zero (fun i hi => h i (by omega)), h n (by omega)]; rfl
theorem sumN_nonneg {f : Nat → Int} : ∀ {n : Nat}, (∀ i, i < n → 0 ≤ f i) → 0 ≤ sumN f n
  | 0, _ => by simp [sumN]
  | n + 1, h => by have := sumN_nonneg (f := f) (n := n) (fun i hi => h i (by omega)); have := h n (by omega); simp only [sumN]; omega
theorem sumN_add {f g h : Nat → Int} : ∀ {n : Nat}, (∀ i, i < n → f i = g i + h i) → sumN f n = sumN g n + sumN h n
  | 0, _ => rfl
  | n + 1, e => by simp only [sumN]; rw [sumN_add (f := f) (g := g) (h := h) (fun i hi => e i (by omega)), e n (by omega)]; omega
theorem sumN_le {f : Nat → Int} {c : Int} : ∀ {n : Nat}, (∀ i, i < n → f i ≤ c) → sumN f n ≤ n * c
  | 0, _ => by simp [sumN]
  | n + 1, h => by
    have h1 := sumN_le (f := f) (c := c) (n := n) (fun i hi => h i (by omega))
    have h2 := h n (by omega)
    have e : ((n + 1 : Nat) : Int) * c = n * c + c := by rw [Int.natCast_add, Int.add_mul]; simp
    simp only [sumN]; rw [e]; omega

/-- What the n buckets up to t hold of a kind. -/
def tot (F : Cnt) (t k n : Nat) : Int := sumN (fun i => if i ≤ t then F (t - i) k else 0) n

/-- Where what was counted stands: the bucket q at q % B, five cells each; nothing else is there. -/
structure Lay (B t : Nat) (F : Cnt) (Z : List Int) : Prop where
  len : Z.length = 40
  here : ∀ q k, q ≤ t → t < q + B → k < 5 → Z[5 * (q % B) + k]? = some (F q k)
  none : ∀ p k, p < 8 → k < 5 → (∀ q, q ≤ t → t < q + B → q % B ≠ p) → Z[5 * p + k]? = some 0
  later : ∀ q k, t < q → F q k = 0
  bd : ∀ q k, 0 ≤ F q k ∧ F q k ≤ 18446744073709551615

theorem mod_apart {B q q' : Nat} (h1 : q < q') (h2 : q' < q + B) (hB : 1 ≤ B) (hB8 : B ≤ 8) : q % B ≠ q' % B := by
  rcases (show B = 1 ∨ B = 2 ∨ B = 3 ∨ B = 4 ∨ B = 5 ∨ B = 6 ∨ B = 7 ∨ B = 8 by omega) with rfl | rfl | rfl | rfl | rfl | rfl | rfl | rfl <;> omega
theorem mod_up {B q t : Nat} (h : q ≤ t) (hB : 1 ≤ B) (hB8 : B ≤ 8) : ∃ q', q' ≤ t ∧ t < q' + B ∧ q' % B = q % B := by
  refine ⟨t - (t - q) % B, ?_⟩
  rcases (show B = 1 ∨ B = 2 ∨ B = 3 ∨ B = 4 ∨ B = 5 ∨ B = 6 ∨ B = 7 ∨ B = 8 by omega) with rfl | rfl | rfl | rfl | rfl | rfl | rfl | rfl <;> omega

theorem Lay.new (B : Nat) (t : Nat) (hB : 1 ≤ B) (hB8 : B ≤ 8) : Lay B t (fun _ _ => 0) (List.replicate 40 0) := by
  refine ⟨rfl, fun q k h1 h2 hk => ?_, fun p k hp hk _ => ?_, fun _ _ _ => rfl, fun _ _ => by omega⟩
  · have := Nat.mod_lt q (show 0 < B by omega)
    rw [List.getElem?_replicate, if_pos (by omega)]
  · rw [List.getElem?_replicate, if_pos (by omega)]

/-- The array when the places of the i buckets up to t are cleared. -/
def Clr (B t i : Nat) (Z Z' : List Int) : Prop := Z'.length = 40 ∧ ∀ p k, p < 8 → k < 5 → ((∃ j, j < i ∧ (t - j) % B = p) → Z'[5 * p + k]? = some 0) ∧ ((∀ j, j < i → (t - j) % B ≠ p) → Z'[5 * p + k]? = Z[5 * p + k]?)

theorem Lay.reach {B t t' : Nat} {F : Cnt} {Z Z' : List Int} (h : Lay B t F Z) (hB : 1 ≤ B) (hB8 : B ≤ 8) (ht : t ≤ t') {m : Nat} (hm : m = if t' - t < B then t' - t else B) (hc : Clr B t' m Z Z') : Lay B t' F Z' := by
  have hmB : m ≤ B ∧ m ≤ t' - t ∧ (m < B → m = t' - t) := by rw [hm]; split <;> omega
  clear hm
  have hlt : ∀ q, q % B < 8 := fun q => by have := Nat.mod_lt q (show 0 < B by omega); omega
  refine ⟨hc.1, fun q k h1 h2 hk => ?_, fun p k hp hk hno => ?_, fun q k hq => h.later q k (by omega), h.bd⟩
  · by_cases hq : q ≤ t
    · rw [(hc.2 (q % B) k (hlt q) hk).2 (fun j hj => (mod_apart (q := q) (q' := t' - j) (by omega) (by omega) hB hB8).symm)]
      exact h.here q k hq (by omega) hk
    · rw [(hc.2 (q % B) k (hlt q) hk).1 ⟨t' - q, by omega, by rw [show t' - (t' - q) = q by omega]⟩, h.later q k (by omega)]
  · by_cases hj : ∃ j, j < m ∧ (t' - j) % B = p
    · exact (hc.2 p k hp hk).1 hj
    · rw [(hc.2 p k hp hk).2 (fun j hj' he => hj ⟨j, hj', he⟩)]
      refine h.none p k hp hk fun q h1 h2 he => ?_
      obtain ⟨q', a, b, c⟩ := mod_up (q := q) (t := t') (by omega) hB hB8
      exact hno q' a b (c.trans he)

def upd (F : Cnt) (t k : Nat) (x : Int) : Cnt := fun q j => if q = t ∧ j = k then x else F q j
theorem upd_same (F : Cnt) (t k : Nat) (x : Int) : upd F t k x t k = x := by simp [upd]
theorem upd_other {F : Cnt} {t k : Nat} {x : Int} {q j : Nat} (h : ¬ (q = t ∧ j = k)) : upd F t k x q j = F q j := by simp only [upd, if_neg h]

theorem Lay.add {B t k : Nat} {F : Cnt} {Z : List Int} {x : Int} (h : Lay B t F Z) (hB : 1 ≤ B) (hB8 : B ≤ 8) (hk : k < 5) (hx : 0 ≤ x ∧ x ≤ 18446744073709551615) : Lay B t (upd F t k x) (Z.set (5 * (t % B) + k) x) := by
  have htB := Nat.mod_lt t (show 0 < B by omega)
  refine ⟨by simp [h.len], fun q j h1 h2 hj => ?_, fun p j hp hj hno => ?_, fun q j hq => ?_, fun q j => ?_⟩
  · by_cases he : q = t ∧ j = k
    · obtain ⟨rfl, rfl⟩ := he
      rw [upd_same, List.getElem?_set_self (by rw [h.len]; omega)]
    · rw [upd_other he, List.getElem?_set_ne, h.here q j h1 h2 hj]
      intro e
      by_cases hq : q = t
      · subst hq; omega
      · have := mod_apart (q := q) (q' := t) (by omega) h2 hB hB8
        omega
  · have := hno t (by omega) (by omega)
    rw [List.getElem?_set_ne (by omega), h.none p j hp hj hno]
  · rw [upd_other (by omega)]; exact h.later q j hq
  · by_cases he : q = t ∧ j = k
    · obtain ⟨rfl, rfl⟩ := he; rw [upd_same]; exact hx
    · rw [upd_other he]; exact h.bd q j

/-! ### what is told -/
theorem rot (G : Nat → Int) (B r : Nat) (hB : 1 ≤ B) (hB8 : B ≤ 8) (hr : r < B) : sumN (fun n => G ((r + B - n) % B)) B = sumN G B := by
  rcases (show B = 1 ∨ B = 2 ∨ B = 3 ∨ B = 4 ∨ B = 5 ∨ B = 6 ∨ B = 7 ∨ B = 8 by omega) with rfl | rfl | rfl | rfl | rfl | rfl | rfl | rfl <;>
  rcases (show r = 0 ∨ r = 1 ∨ r = 2 ∨ r = 3 ∨ r = 4 ∨ r = 5 ∨ r = 6 ∨ r = 7 by omega) with rfl | rfl | rfl | rfl | rfl | rfl | rfl | rfl <;>
  first | omega | (simp [sumN]; try omega)

theorem Lay.tot {B t k : Nat} {F : Cnt} {Z : List Int} (h : Lay B t F Z) (hB : 1 ≤ B) (hB8 : B ≤ 8) (hk : k < 5) : sumN (fun j => Z.getD (5 * j + k) 0) 8 = Go.Proofs.YtgnccpmkdgfjeaaGreat.tot F t k B := by
  have e0 : ∀ n, n < B → (if n ≤ t then F (t - n) k else 0) = Z.getD (5 * ((t % B + B - n) % B) + k) 0 := by
    intro n hn
    have hp : (t % B + B - n) % B < 8 := by have := Nat.mod_lt (t % B + B - n) (show 0 < B by omega); omega
    by_cases hnt : n ≤ t
    · rw [if_pos hnt]
      have e : (t % B + B - n) % B = (t - n) % B := by
        rcases (show B = 1 ∨ B = 2 ∨ B = 3 ∨ B = 4 ∨ B = 5 ∨ B = 6 ∨ B = 7 ∨ B = 8 by omega) with rfl | rfl | rfl | rfl | rfl | rfl | rfl | rfl <;> omega
      rw [e, List.getD_eq_getElem?_getD, h.here (t - n) k (by omega) (by omega) hk]
      rfl
    · rw [if_neg hnt, List.getD_eq_getElem?_getD, h.none _ k hp hk]
      · rfl
      · intro q h1 h2
        rcases (show B = 1 ∨ B = 2 ∨ B = 3 ∨ B = 4 ∨ B = 5 ∨ B = 6 ∨ B = 7 ∨ B = 8 by omega) with rfl | rfl | rfl | rfl | rfl | rfl | rfl | rfl <;> omega
  have e1 : Go.Proofs.YtgnccpmkdgfjeaaGreat.tot F t k B = sumN (fun j => Z.getD (5 * j + k) 0) B := by
    unfold Go.Proofs.YtgnccpmkdgfjeaaGreat.tot
    rw [sumN_congr e0]
    exact rot (fun j => Z.getD (5 * j + k) 0) B (t % B) hB hB8 (Nat.mod_lt _ (by omega))
  rw [e1]
  have e2 : ∀ d, B + d ≤ 8 → sumN (fun j => Z.getD (5 * j + k) 0) (B + d) = sumN (fun j => Z.getD (5 * j + k) 0) B := by
    intro d
    induction d with
    | zero => intro _; rfl
    | succ d ih =>
      intro hd
      rw [show B + (d + 1) = (B + d) + 1 by omega]
      simp only [sumN]
      rw [ih (by omega), List.getD_eq_getElem?_getD, h.none (B + d) k (by omega) hk (fun q _ _ he => by have := Nat.mod_lt q (show 0 < B by omega); omega)]
      simp
  have := e2 (8 - B) (by omega)
  rwa [show B + (8 - B) = 8 by omega] at this

/-! ### sums of what was counted -/
theorem tot_zero {F : Cnt} {t k : Nat} (n : Nat) (h : ∀ q, q ≤ t → F q k = 0) : tot F t k n = 0 := sumN_zero fun i _ => by
  by_cases hi : i ≤ t
  · rw [if_pos hi]; exact h _ (by omega)
  · rw [if_neg hi]
theorem tot_one {F : Cnt} {t k q0 : Nat} {x : Int} (h0 : F q0 k = x) (h : ∀ q, q ≠ q0 → F q k = 0) : ∀ n, tot F t k n = if q0 ≤ t ∧ t < q0 + n then x else 0
  | 0 => by rw [if_neg (by omega)]; rfl
  | n + 1 => by
    have ih := tot_one (t := t) h0 h n
    unfold tot at ih ⊢
    simp only [sumN]
    rw [ih]
    by_cases h1 : q0 ≤ t ∧ t < q0 + n
    · rw [if_pos h1, if_pos (show q0 ≤ t ∧ t < q0 + (n + 1) by omega)]
      by_cases hn : n ≤ t
      · rw [if_pos hn, h (t - n) (by omega)]; omega
      · rw [if_neg hn]; omega
    · rw [if_neg h1]
      by_cases h2 : q0 ≤ t ∧ t < q0 + (n + 1)
      · rw [if_pos h2, if_pos (by omega), show t - n = q0 by omega, h0]; omega
      · rw [if_neg h2]
        by_cases hn : n ≤ t
        · rw [if_pos hn, h (t - n) (by omega)]; rfl
        · rw [if_neg hn]; rfl
theorem sat_none (t k n : Nat) : satS (tot (fun _ _ => 0) t k n) = 0 := by rw [tot_zero (F := fun _ _ => 0) n (fun _ _ => rfl)]; rfl
theorem sat_one {q k : Nat} {x : Int} (t i n : Nat) (hx : x ≤ 18446744073709551615) : satS (tot (upd (fun _ _ => 0) q k x) t i n) = if i = k ∧ q ≤ t ∧ t < q + n then x else 0 := by
  by_cases hi : i = k
  · subst hi
    rw [tot_one (F := upd (fun _ _ => 0) q i x) (t := t) (upd_same _ _ _ _) (fun q' hq => upd_other (by omega)) n]
    by_cases h : q ≤ t ∧ t < q + n
    · rw [if_pos h, if_pos ⟨rfl, h⟩]; exact satS_of hx
    · rw [if_neg h, if_neg (fun h' => h h'.2)]; rfl
  · rw [if_neg (fun h => hi h.1), tot_zero (F := upd (fun _ _ => 0) q k x) n (fun q' _ => upd_other (by omega))]; rfl
theorem tot_nonneg {F : Cnt} {t k n : Nat} (h : ∀ q, 0 ≤ F q k) : 0 ≤ tot F t k n := sumN_nonneg fun i _ => by
  by_cases hi : i ≤ t
  · rw [if_pos hi]; exact h _
  · rw [if_neg hi]; omega
theorem tot_add {F G H : Cnt} {t k n : Nat} (h : ∀ q, F q k = G q k + H q k) : tot F t k n = tot G t k n + tot H t k n := sumN_add fun i _ => by
  by_cases hi : i ≤ t
  · rw [if_pos hi, if_pos hi, if_pos hi]; exact h _
  · rw [if_neg hi, if_neg hi, if_neg hi]; rfl
theorem tot_le {F : Cnt} {t k n : Nat} {c : Int} (h0 : 0 ≤ c) (h : ∀ q, F q k ≤ c) : tot F t k n ≤ n * c := sumN_le fun i _ => by
  by_cases hi : i ≤ t
  · rw [if_pos hi]; exact h _
  · rw [if_neg hi]; exact h0
end Go.Proofs.YtgnccpmkdgfjeaaGreat

namespace Go.Proofs.YtgnccpmkdgfjeaaGreat
set_option linter.unusedVariables false

/-- Where what was counted stands: the bucket q at q % B, 65 cells each; nothing else is there. -/
structure LayH (B t : Nat) (F : Cnt) (Z : List Int) : Prop where
  len : Z.length = 520
  here : ∀ q k, q ≤ t → t < q + B → k < 65 → Z[65 * (q % B) + k]? = some (F q k)
  none : ∀ p k, p < 8 → k < 65 → (∀ q, q ≤ t → t < q + B → q % B ≠ p) → Z[65 * p + k]? = some 0
  later : ∀ q k, t < q → F q k = 0
  bd : ∀ q k, 0 ≤ F q k ∧ F q k ≤ 18446744073709551615

theorem LayH.new (B : Nat) (t : Nat) (hB : 1 ≤ B) (hB8 : B ≤ 8) : LayH B t (fun _ _ => 0) (List.replicate 520 0) := by
  refine ⟨List.length_replicate, fun q k h1 h2 hk => ?_, fun p k hp hk _ => ?_, fun _ _ _ => rfl, fun _ _ => by omega⟩
  · have := Nat.mod_lt q (show 0 < B by omega)
    rw [List.getElem?_replicate, if_pos (by omega)]
  · rw [List.getElem?_replicate, if_pos (by omega)]

/-- The array when the places of the i buckets up to t are cleared. -/
def ClrH (B t i : Nat) (Z Z' : List Int) : Prop := Z'.length = 520 ∧ ∀ p k, p < 8 → k < 65 → ((∃ j, j < i ∧ (t - j) % B = p) → Z'[65 * p + k]? = some 0) ∧ ((∀ j, j < i → (t - j) % B ≠ p) → Z'[65 * p + k]? = Z[65 * p + k]?)

theorem LayH.reach {B t t' : Nat} {F : Cnt} {Z Z' : List Int} (h : LayH B t F Z) (hB : 1 ≤ B) (hB8 : B ≤ 8) (ht : t ≤ t') {m : Nat} (hm : m = if t' - t < B then t' - t else B) (hc : ClrH B t' m Z Z') : LayH B t' F Z' := by
  have hmB : m ≤ B ∧ m ≤ t' - t ∧ (m < B → m = t' - t) := by rw [hm]; split <;> omega
  clear hm
  have hlt : ∀ q, q % B < 8 := fun q => by have := Nat.mod_lt q (show 0 < B by omega); omega
  refine ⟨hc.1, fun q k h1 h2 hk => ?_, fun p k hp hk hno => ?_, fun q k hq => h.later q k (by omega), h.bd⟩
  · by_cases hq : q ≤ t
    · rw [(hc.2 (q % B) k (hlt q) hk).2 (fun j hj => (mod_apart (q := q) (q' := t' - j) (by omega) (by omega) hB hB8).symm)]
      exact h.here q k hq (by omega) hk
    · rw [(hc.2 (q % B) k (hlt q) hk).1 ⟨t' - q, by omega, by rw [show t' - (t' - q) = q by omega]⟩, h.later q k (by omega)]
  · by_cases hj : ∃ j, j < m ∧ (t' - j) % B = p
    · exact (hc.2 p k hp hk).1 hj
    · rw [(hc.2 p k hp hk).2 (fun j hj' he => hj ⟨j, hj', he⟩)]
      refine h.none p k hp hk fun q h1 h2 he => ?_
      obtain ⟨q', a, b, c⟩ := mod_up (q := q) (t := t') (by omega) hB hB8
      exact hno q' a b (c.trans he)

theorem LayH.add {B t k : Nat} {F : Cnt} {Z : List Int} {x : Int} (h : LayH B t F Z) (hB : 1 ≤ B) (hB8 : B ≤ 8) (hk : k < 65) (hx : 0 ≤ x ∧ x ≤ 18446744073709551615) : LayH B t (upd F t k x) (Z.set (65 * (t % B) + k) x) := by
  have htB := Nat.mod_lt t (show 0 < B by omega)
  refine ⟨by simp [h.len], fun q j h1 h2 hj => ?_, fun p j hp hj hno => ?_, fun q j hq => ?_, fun q j => ?_⟩
  · by_cases he : q = t ∧ j = k
    · obtain ⟨rfl, rfl⟩ := he
      rw [upd_same, List.getElem?_set_self (by rw [h.len]; omega)]
    · rw [upd_other he, List.getElem?_set_ne, h.here q j h1 h2 hj]
      intro e
      by_cases hq : q = t
      · subst hq; omega
      · have := mod_apart (q := q) (q' := t) (by omega) h2 hB hB8
        omega
  · have := hno t (by omega) (by omega)
    rw [List.getElem?_set_ne (by omega), h.none p j hp hj hno]
  · rw [upd_other (by omega)]; exact h.later q j hq
  · by_cases he : q = t ∧ j = k
    · obtain ⟨rfl, rfl⟩ := he; rw [upd_same]; exact hx
    · rw [upd_other he]; exact h.bd q j

theorem LayH.tot {B t k : Nat} {F : Cnt} {Z : List Int} (h : LayH B t F Z) (hB : 1 ≤ B) (hB8 : B ≤ 8) (hk : k < 65) : sumN (fun j => Z.getD (65 * j + k) 0) 8 = Go.Proofs.YtgnccpmkdgfjeaaGreat.tot F t k B := by
  have e0 : ∀ n, n < B → (if n ≤ t then F (t - n) k else 0) = Z.getD (65 * ((t % B + B - n) % B) + k) 0 := by
    intro n hn
    have hp : (t % B + B - n) % B < 8 := by have := Nat.mod_lt (t % B + B - n) (show 0 < B by omega); omega
    by_cases hnt : n ≤ t
    · rw [if_pos hnt]
      have e : (t % B + B - n) % B = (t - n) % B := by
        rcases (show B = 1 ∨ B = 2 ∨ B = 3 ∨ B = 4 ∨ B = 5 ∨ B = 6 ∨ B = 7 ∨ B = 8 by omega) with rfl | rfl | rfl | rfl | rfl | rfl | rfl | rfl <;> omega
      rw [e, List.getD_eq_getElem?_getD, h.here (t - n) k (by omega) (by omega) hk]
      rfl
    · rw [if_neg hnt, List.getD_eq_getElem?_getD, h.none _ k hp hk]
      · rfl
      · intro q h1 h2
        rcases (show B = 1 ∨ B = 2 ∨ B = 3 ∨ B = 4 ∨ B = 5 ∨ B = 6 ∨ B = 7 ∨ B = 8 by omega) with rfl | rfl | rfl | rfl | rfl | rfl | rfl | rfl <;> omega
  have e1 : Go.Proofs.YtgnccpmkdgfjeaaGreat.tot F t k B = sumN (fun j => Z.getD (65 * j + k) 0) B := by
    unfold Go.Proofs.YtgnccpmkdgfjeaaGreat.tot
    rw [sumN_congr e0]
    exact rot (fun j => Z.getD (65 * j + k) 0) B (t % B) hB hB8 (Nat.mod_lt _ (by omega))
  rw [e1]
  have e2 : ∀ d, B + d ≤ 8 → sumN (fun j => Z.getD (65 * j + k) 0) (B + d) = sumN (fun j => Z.getD (65 * j + k) 0) B := by
    intro d
    induction d with
    | zero => intro _; rfl
    | succ d ih =>
      intro hd
      rw [show B + (d + 1) = (B + d) + 1 by omega]
      simp only [sumN]
      rw [ih (by omega), List.getD_eq_getElem?_getD, h.none (B + d) k (by omega) hk (fun q _ _ he => by have := Nat.mod_lt q (show 0 < B by omega); omega)]
      simp
  have := e2 (8 - B) (by omega)
  rwa [show B + (8 - B) = 8 by omega] at this

theorem LayH.cell {B t : Nat} {F : Cnt} {Z : List Int} (h : LayH B t F Z) (hB : 1 ≤ B) (hB8 : B ≤ 8) (q : Nat) : 0 ≤ Z.getD q 0 ∧ Z.getD q 0 ≤ 18446744073709551615 := by
  by_cases hq : q < 520
  · rw [List.getD_eq_getElem?_getD]
    have e : q = 65 * (q / 65) + q % 65 := by omega
    by_cases hx : ∃ q', q' ≤ t ∧ t < q' + B ∧ q' % B = q / 65
    · obtain ⟨q', h1, h2, h3⟩ := hx
      rw [e, ← h3, h.here q' (q % 65) h1 h2 (by omega)]
      exact h.bd _ _
    · rw [e, h.none (q / 65) (q % 65) (by omega) (by omega) (fun q' h1 h2 h3 => hx ⟨q', h1, h2, h3⟩)]
      simp
  · rw [List.getD_eq_getElem?_getD, List.getElem?_eq_none (by rw [h.len]; omega)]
    simp
theorem ClrH.step {B t i p : Nat} {Z Z' : List Int} (h : ClrH B t i Z Z') (hp : (t - i) % B = p) (hp8 : p < 8) : ClrH B t (i + 1) Z (put Z' (p * 65) (List.replicate 65 0)) := by
  have hl := h.1
  refine ⟨by rw [put_len]; exact hl, fun p' k h1 h2 => ?_⟩
  by_cases he : p' = p
  · subst he
    have e : (put Z' (p' * 65) (List.replicate 65 0))[65 * p' + k]? = some 0 := by
      rw [show 65 * p' + k = p' * 65 + k by omega, put_in _ _ _ _ (by simpa using h2) (by omega), List.getElem?_replicate, if_pos h2]
    exact ⟨fun _ => e, fun hno => absurd hp (hno i (by omega))⟩
  · have e : (put Z' (p * 65) (List.replicate 65 0))[65 * p' + k]? = Z'[65 * p' + k]? := put_out _ _ _ _ (by simp; omega)
    rw [e]
    refine ⟨fun ⟨j, hj, hj'⟩ => (h.2 p' k h1 h2).1 ⟨j, ?_, hj'⟩, fun hno => (h.2 p' k h1 h2).2 (fun j hj => hno j (by omega))⟩
    by_cases hji : j = i
    · subst hji; exact absurd (hj'.symm.trans hp) he
    · omega

end Go.Proofs.YtgnccpmkdgfjeaaGreat

namespace Go.Proofs.YtgnccpmkdgfjeaaGreat
set_option linter.unusedVariables false
open Go.ChangeShapes Go.WideShapes Go.ChangeAt Go.RowKit

/-- Numbers by value. -/
def arrU (Z : List Int) : Array Value := ⟨Z.map (Value.int .u64)⟩
/-- The block of such an array. -/
def aobj (ty : TypeId) (Z : List Int) : Obj := .cells (arrU Z) ty
theorem arrU_list (Z : List Int) : (arrU Z).toList = Z.map (Value.int .u64) := rfl
theorem arrU_size (Z : List Int) : (arrU Z).size = Z.length := by simp [arrU]
theorem arrU_at {Z : List Int} {j : Nat} {z : Int} (h : Z[j]? = some z) : (arrU Z)[j]? = some (.int .u64 z) := by simp [arrU, h]
theorem arrU_one (Z : List Int) : (arrU Z).all (·.oneCell') = true := by simp [arrU, Value.oneCell']
theorem arrU_inj {Y Z : List Int} (h : arrU Y = arrU Z) : Y = Z := by
  unfold arrU at h
  have h := congrArg Array.toList h
  exact (List.map_inj_right (f := Value.int .u64) (by intro a b e; injection e)).1 h
section
variable {w w' : World} {g j : Nat} {ty : TypeId} {Z Z' : List Int} {z : Int}
theorem aobj_cell (h : w.heap[g]? = some (aobj ty Z)) (hz : Z[j]? = some z) : w.cell? ⟨g, j, none⟩ = some (.int .u64 z) := by
  rw [cell_of h]; exact arrU_at hz
theorem aobj_frozen (h : w.heap[g]? = some (aobj ty Z)) (j : Nat) : w.frozen? ⟨g, j, none⟩ = false := frozen_of h j
theorem aobj_set (h : w.heap[g]? = some (aobj ty Z)) (j : Nat) (z : Int) : (w.setCell ⟨g, j, none⟩ (.int .u64 z)).heap[g]? = some (aobj ty (Z.set j z)) := by
  rw [heap_set_same h]; simp [aobj, arrU, List.map_set]
theorem aobj_range (h : w.heap[g]? = some (aobj ty Z)) : w.rangeAt g 0 (Z.map (Value.int .u64)) := fun j v hv => by
  simp only [List.getElem?_map, Option.map_eq_some_iff] at hv
  obtain ⟨z, hz, rfl⟩ := hv
  rw [Nat.zero_add]; exact aobj_cell h hz
theorem aobj_there (h : w.heap[g]? = some (aobj ty Z)) : w.there g 0 Z.length := fun j hj => by
  rw [Nat.zero_add]
  exact ⟨by rw [aobj_cell h (List.getElem?_eq_getElem hj)]; rfl, aobj_frozen h j⟩
theorem aobj_row (h : w.heap[g]? = some (aobj ty Z)) (hm : Z.length ≤ maxLen) (hb : ∀ n ∈ Z, 0 ≤ n ∧ n ≤ 18446744073709551615) : Row .u64 w (some ⟨g, 0, none⟩) Z.length Z :=
  ⟨Nat.le_refl _, hm, .inr ⟨g, 0, rfl, fun j hj => by rw [Nat.zero_add]; exact aobj_cell h (by rw [List.getD_eq_getElem?_getD, List.getElem?_eq_getElem hj]; rfl)⟩, fun n hn => WalkArith.wf_u64 ⟨(hb n hn).1, by have := (hb n hn).2; omega⟩⟩
theorem put_whole (hl : Z.length = Z'.length) : put Z 0 Z' = Z' := by
  apply List.ext_getElem?
  intro i
  by_cases hi : i < Z'.length
  · have := put_in Z' Z 0 i hi (by omega)
    rwa [Nat.zero_add] at this
  · rw [List.getElem?_eq_none (by rw [put_len]; omega), List.getElem?_eq_none (by omega)]
/-- The whole of it stored. -/
theorem aobj_puts (h : w.heap[g]? = some (aobj ty Z)) (hl : Z.length = Z'.length) : (w.setCells g 0 (Z'.map (Value.int .u64))).heap[g]? = some (aobj ty Z') := by
  have := heap_setCells (k := .u64) (ty := ty) (b := g) (H := []) Z' 0 Z w (by simpa [aobj, arrU, hobj] using h)
  rw [put_whole hl] at this
  simpa [aobj, arrU, hobj] using this
theorem size_setCells (b : Nat) : ∀ (vs : List Value) (o : Nat) (w : World), (w.setCells b o vs).heap.size = w.heap.size
  | [], _, _ => rfl
  | v :: r, o, w => by rw [World.setCells, size_setCells b r]; exact heap_set_size _ _ _
end

section
variable {P : Program} {ops : Array Oper} {rest : List Oper} {o : Oper} {a : Act} {w : World} {Q : Exit → Act → World → Prop}
theorem run_load_arr (w : World) (ty : TypeId) (g n : Nat) (e : TypeId) (Z : List Int) (hb : w.heap[g]? = some (aobj ty Z)) (hu : P.underlying ty = some (.array n e)) (hi : (P.info? ty).map (·.size) = some Z.length) :
    (loadVar ty ⟨g, 0, none⟩).run P w = .ok (.agg (arrU Z)) w :=
  run_loadVar_mid w g 0 ty (Z.map (Value.int .u64)) (.array n e) (aobj_range hb) hu rfl (by rw [hi, List.length_map])
theorem run_loadAt_arr (w : World) (ty : TypeId) (g n : Nat) (e : TypeId) (Z : List Int) (hb : w.heap[g]? = some (aobj ty Z)) (hu : P.underlying ty = some (.array n e)) (hi : (P.info? ty).map (·.size) = some Z.length) :
    (Instr.loadAt ty (.pointer (some ⟨g, 0, none⟩))).run P w = .ok (.agg (arrU Z)) w :=
  run_loadAt_mid w g 0 ty (Z.map (Value.int .u64)) (.array n e) (aobj_range hb) hu rfl (by rw [hi, List.length_map])
/-- A result that lies in a cell. -/
theorem results_cell {fn : Func} {tmps : Array Value} {t : TypeId} {c : Tmp} {p : Addr} {v : Value} (hr : fn.results = #[.cell c t]) (ha : tmps.getD c undef = .pointer (some p)) (hl : (loadVar t p).run P w = .ok v w) : (results fn tmps).run P w = .ok v w := by
  unfold results
  rw [hr]
  rw [Array.getD_eq_getD_getElem?] at ha
  simp [asAddr, ha, hl]
theorem results_cell2 {fn : Func} {tmps : Array Value} {t t' : TypeId} {c c' : Tmp} {p p' : Addr} {v v' : Value} (hr : fn.results = #[.cell c t, .cell c' t']) (ha : tmps.getD c undef = .pointer (some p)) (hl : (loadVar t p).run P w = .ok v w) (ha' : tmps.getD c' undef = .pointer (some p')) (hl' : (loadVar t' p').run P w = .ok v' w) :
    (results fn tmps).run P w = .ok (.tuple #[v, v']) w := by
  unfold results
  rw [hr]
  rw [Array.getD_eq_getD_getElem?] at ha ha'
  simp [asAddr, ha, hl, ha', hl']
theorem wpList_load_arr (hg : o.guard = none) (ty : TypeId) (x : Operand) (ho : o.op = .load ty x) (g : Nat) (hx : a.eval x = .pointer (some ⟨g, 0, none⟩)) (Z : List Int) (hb : w.heap[g]? = some (aobj ty Z)) (n : Nat) (e : TypeId) (hu : P.underlying ty = some (.array n e)) (hi : (P.info? ty).map (·.size) = some Z.length)
    (h : wpList P ops Q rest (a.put o.dst (.agg (arrU Z))) w) : wpList P ops Q (o :: rest) a w :=
  wpList_load_mid hg ty x ho g 0 hx (Z.map (Value.int .u64)) (.array n e) (aobj_range hb) hu rfl (by rw [hi, List.length_map]) h
/-- The same behind a guard that holds. -/
theorem wpList_load_arrG (hw : Region.wanted o (yielded ops a.tmps) = true) (ty : TypeId) (x : Operand) (ho : o.op = .load ty x) (g : Nat) (hx : a.eval x = .pointer (some ⟨g, 0, none⟩)) (Z : List Int) (hb : w.heap[g]? = some (aobj ty Z)) (n : Nat) (e : TypeId) (hu : P.underlying ty = some (.array n e)) (hi : (P.info? ty).map (·.size) = some Z.length)
    (h : wpList P ops Q rest (a.put o.dst (.agg (arrU Z))) w) : wpList P ops Q (o :: rest) a w :=
  BigFrame.wpList_want hw fun K hK => wp_load_mid ty x ho g 0 hx (Z.map (Value.int .u64)) (.array n e) (aobj_range hb) hu rfl (by rw [hi, List.length_map]) (hK _ _ h)
/-- Out of the middle of a block. -/
theorem wpList_load_arrAt (hg : o.guard = none) (ty : TypeId) (x : Operand) (ho : o.op = .load ty x) (b off : Nat) (hx : a.eval x = .pointer (some ⟨b, off, none⟩)) (Z : List Int) (hb : w.rangeAt b off (Z.map (Value.int .u64))) (n : Nat) (e : TypeId) (hu : P.underlying ty = some (.array n e)) (hi : (P.info? ty).map (·.size) = some Z.length)
    (h : wpList P ops Q rest (a.put o.dst (.agg (arrU Z))) w) : wpList P ops Q (o :: rest) a w :=
  wpList_load_mid hg ty x ho b off hx (Z.map (Value.int .u64)) (.array n e) hb hu rfl (by rw [hi, List.length_map]) h
/-- An element of an array of numbers, by value; an array out of an array of arrays. -/
theorem run_index_arr (w : World) (t e : TypeId) (n : Nat) (Z : List Int) (k : IntKind) (i : Nat) (z : Int) (h : P.underlying t = some (.array n e)) (he : (isAgg e).run P w = .ok false w) (hs : (sizeOf e).run P w = .ok 1 w) (h1 : i < n) (hz : Z[i]? = some z) :
    (Instr.index t (.agg (arrU Z)) (.int k i)).run P w = .ok (.int .u64 z) w :=
  run_index_one w t e n (arrU Z) k i _ h he hs (by omega) (by omega) (by rw [Int.toNat_natCast]; exact arrU_at hz)
theorem arrU_part (Z : List Int) (i n : Nat) : (arrU Z).extract i (i + n) = arrU ((Z.drop i).take n) := by
  apply Array.toList_inj.1
  simp [arrU, List.extract, List.map_drop, List.map_take]
theorem run_index_arrs (w : World) (t e : TypeId) (n s : Nat) (Z : List Int) (k : IntKind) (i : Nat) (h : P.underlying t = some (.array n e)) (he : (isAgg e).run P w = .ok true w) (hs : (sizeOf e).run P w = .ok s w) (h1 : i < n) :
    (Instr.index t (.agg (arrU Z)) (.int k i)).run P w = .ok (.agg (arrU ((Z.drop (i * s)).take s))) w := by
  rw [run_index_agg w t e n s (arrU Z) k i h he hs (by omega) (by omega), Int.toNat_natCast, arrU_part]
theorem wpList_store_arr (hg : o.guard = none) (ty : TypeId) (x y : Operand) (ho : o.op = .store ty x y) (g : Nat) (Z Z' : List Int) (hx : a.eval x = .pointer (some ⟨g, 0, none⟩)) (hy : a.eval y = .agg (arrU Z')) (hb : w.heap[g]? = some (aobj ty Z)) (hl : Z.length = Z'.length) (hi : (P.info? ty).map (·.size) = some Z'.length)
    (h : ∀ w', w'.heap[g]? = some (aobj ty Z') → Frm (· = g) w w' → w'.heap.size = w.heap.size → wpList P ops Q rest (a.put o.dst undef) w') : wpList P ops Q (o :: rest) a w :=
  wpList_store_mid hg ty x y ho g 0 (arrU Z') hx hy (by rw [arrU_size, ← hl]; exact aobj_there hb) (by rw [hi, arrU_size]) (arrU_one Z')
    (h _ (aobj_puts hb hl) (frm_setCells (F := (· = g)) (b := g) rfl _ _ _ _ (Frm.refl _ _)) (size_setCells _ _ _ _))
/-- One operation alone may come up, in a region that draws its order, under a condition on worlds. -/
theorem wpAnyH_one {md : Region.Mode} {S : World → Prop} {fuel : Nat} {listed : Array Bool} {i : Nat} (hr : Region.ready md ops listed = [i]) (ho : ops[i]? = some o) (hg : o.guard = none)
    (h : o.wp P a w (fun a' w' => S w' ∧ wpAnyH P md ops Q S fuel (listed.setIfInBounds i true) a' w') Q) : wpAnyH P md ops Q S (fuel + 1) listed a w :=
  wpAnyH_all hr (by simp) fun j hj => by
    rw [List.mem_singleton] at hj
    subst hj
    unfold wpOp
    rw [ho]
    simp only [Region.wanted, hg, if_true]
    exact .inl h
theorem wpList_alloc_arr (hg : o.guard = none) (ty : TypeId) (ho : o.op = .alloc ty) (g : Nat) (hG : w.heap.size = g) (Z : List Int) (hrun : (Instr.alloc ty true (.tuple #[])).run P w = .ok (.pointer (some ⟨w.heap.size, 0, none⟩)) (w.alloc (aobj ty Z)))
    (h : ∀ w', w'.heap[g]? = some (aobj ty Z) → Below g w w' → w'.heap.size = g + 1 → wpList P ops Q rest (a.put o.dst (.pointer (some ⟨g, 0, none⟩))) w') : wpList P ops Q (o :: rest) a w := by
  subst hG
  refine wpList_plain hg fun K' hK' => ?_
  unfold Oper.wp
  simp [execOp, ho, hrun, Result.andThen]
  exact hK' _ _ (h _ (heap_alloc_at w _) (below_alloc w _) (by simp))
theorem wpList_box_arr (hg : o.guard = none) (ty : TypeId) (x : Operand) (ho : o.op = .box ty x) (g : Nat) (hG : w.heap.size = g) (Z : List Int) (hx : a.eval x = .agg (arrU Z))
    (h : ∀ w', w'.heap[g]? = some (aobj ty Z) → Below g w w' → w'.heap.size = g + 1 → wpList P ops Q rest (a.put o.dst (.pointer (some ⟨g, 0, none⟩))) w') : wpList P ops Q (o :: rest) a w := by
  subst hG
  have hrun : (Instr.box ty (.agg (arrU Z))).run P w = .ok (.pointer (some ⟨w.heap.size, 0, none⟩)) (w.alloc (aobj ty Z)) := by
    simp [Instr.box, newVar, newRow, Value.cells, aobj]
  refine wpList_plain hg fun K' hK' => ?_
  unfold Oper.wp
  simp [execOp, ho, hx, hrun, Result.andThen]
  exact hK' _ _ (h _ (heap_alloc_at w _) (below_alloc w _) (by simp))
end
end Go.Proofs.YtgnccpmkdgfjeaaGreat

namespace Go.Proofs.YtgnccpmkdgfjeaaGreat
set_option linter.unusedVariables false
open Go.ChangeShapes Go.WideShapes Go.ChangeAt Go.RowKit

/-- A hist's block: buckets, their width, the last one, the counts. -/
abbrev oobj (B W t : Int) (Z : List Int) : Obj := hobj .u64 179 [.int .u64 B, .int .u64 W, .int .u64 t] Z
theorem oobj_cells {w : World} {b : Nat} {B W t : Int} {Z : List Int} (h : w.heap[b]? = some (oobj B W t Z)) : w.cell? ⟨b, 0, none⟩ = some (.int .u64 B) ∧ w.cell? ⟨b, 1, none⟩ = some (.int .u64 W) ∧ w.cell? ⟨b, 2, none⟩ = some (.int .u64 t) := ⟨by rw [cell_of h]; rfl, by rw [cell_of h]; rfl, by rw [cell_of h]; rfl⟩
theorem oobj_cell {w : World} {b : Nat} {B W t : Int} {Z : List Int} (h : w.heap[b]? = some (oobj B W t Z)) {j : Nat} {z : Int} (hz : Z[j]? = some z) : w.cell? ⟨b, 3 + j, none⟩ = some (.int .u64 z) := hobj_cell h hz
theorem oobj_set {w : World} {b : Nat} {B W t : Int} {Z : List Int} (h : w.heap[b]? = some (oobj B W t Z)) (j : Nat) (z : Int) : (w.setCell ⟨b, 3 + j, none⟩ (.int .u64 z)).heap[b]? = some (oobj B W t (Z.set j z)) := by
  have := heap_set_same (o := 3 + j) h (.int .u64 z)
  rwa [show (3 + j : Nat) = [Value.int .u64 B, .int .u64 W, .int .u64 t].length + j from rfl, hobj_set] at this
theorem oobj_last {w : World} {b : Nat} {B W t : Int} {Z : List Int} (h : w.heap[b]? = some (oobj B W t Z)) (z : Int) : (w.setCell ⟨b, 2, none⟩ (.int .u64 z)).heap[b]? = some (oobj B W z Z) := heap_set_same (o := 2) h (.int .u64 z)
theorem oobj_puts {w : World} {b : Nat} {B W t : Int} {Z : List Int} (h : w.heap[b]? = some (oobj B W t Z)) (o : Nat) (vs : List Int) : (w.setCells b (3 + o) (vs.map (Value.int .u64))).heap[b]? = some (oobj B W t (put Z o vs)) := heap_setCells vs o Z w h
theorem oobj_there {w : World} {b : Nat} {B W t : Int} {Z : List Int} (h : w.heap[b]? = some (oobj B W t Z)) (hl : Z.length = 520) (j : Nat) (hj : j < 520) : (w.cell? ⟨b, 3 + j, none⟩).isSome = true := by
  rw [oobj_cell h (List.getElem?_eq_getElem (by omega : j < Z.length))]; rfl

/-- A hist in block b: B buckets of W ticks, the last one t, what was noted in each. -/
structure His (w : World) (b B W t : Nat) (F : Cnt) : Prop where
  blk : ∃ Z : List Int, w.heap[b]? = some (oobj B W t Z) ∧ LayH B t F Z
  B1 : 1 ≤ B
  B8 : B ≤ 8
  W1 : 1 ≤ W
  Wm : W ≤ 1099511627776
  tm : t ≤ 18446744073709551615
section
variable {w w' : World} {b B W t : Nat} {F : Cnt}
theorem His.keep (h : His w b B W t F) (hk : w'.heap[b]? = w.heap[b]?) : His w' b B W t F := by
  obtain ⟨Z, h1, h2⟩ := h.blk
  exact ⟨⟨Z, hk.trans h1, h2⟩, h.B1, h.B8, h.W1, h.Wm, h.tm⟩
theorem His.lt (h : His w b B W t F) : b < w.heap.size := by obtain ⟨Z, h1, _⟩ := h.blk; exact heap_lt h1
theorem His.below (h : His w b B W t F) (hb : Below w.heap.size w w') : His w' b B W t F := h.keep (hb.block b h.lt)
theorem His.ali (h : His w b B W t F) (ha : Ali w w') : His w' b B W t F := h.keep (by rw [ha.heap])
theorem His.frm {G : Nat → Prop} (h : His w b B W t F) (hf : Frm G w w') (hn : ¬ G b) : His w' b B W t F := h.keep (hf.block b h.lt hn)
/-- A block of another kind is another one. -/
theorem His.other (h : His w b B W t F) {j : Nat} {cs : Array Value} {ty : TypeId} {f : Nat × Nat} (hj : w.heap[j]? = some (.cells cs ty f)) (ht : ty ≠ 179) : j ≠ b := by
  obtain ⟨Z, h1, _⟩ := h.blk
  rintro rfl
  rw [h1] at hj
  injection hj with hj
  injection hj with _ hj
  exact ht hj.symm
theorem His.kept (h : His w b B W t F) (hf : Frm (· = b) w w') {j : Nat} {cs : Array Value} {ty : TypeId} {f : Nat × Nat} (hj : w.heap[j]? = some (.cells cs ty f)) (ht : ty ≠ 179) : w'.heap[j]? = some (.cells cs ty f) := by
  rw [hf.block j (heap_lt hj) (h.other hj ht)]; exact hj
end

theorem wpList_buildH {P : Program} {w : World} {ops : Array Oper} {rest : List Oper} {o : Oper} {a : Act} {Q : Exit → Act → World → Prop} (hg : o.guard = none) (t : TypeId) (parts : Array (Nat × Operand)) (hop : o.op = .build t parts)
    (v : Value) (hrun : (Instr.build t (parts.map fun (i, x) => (i, a.eval x))).run P w = .ok v w) (h : wpList P ops Q rest (a.put o.dst v) w) : wpList P ops Q (o :: rest) a w := by
  refine wpList_plain hg fun K' hK' => ?_
  unfold Oper.wp
  simp [execOp, hop, hrun, Result.andThen]
  exact hK' _ _ h

/-- The array's type, its cells all zero. -/
def z65 : List Int := List.replicate 65 0
theorem z65_len : z65.length = 65 := List.length_replicate
theorem z65_at {j : Nat} (h : j < 65) : z65[j]? = some 0 := by unfold z65; rw [List.getElem?_replicate, if_pos h]
theorem z65_mem {n : Int} (h : n ∈ z65) : n = 0 := List.eq_of_mem_replicate h
theorem alloc65 (w : World) : (Instr.alloc 127 true (.tuple #[])).run Tryz.prog w = .ok (.pointer (some ⟨w.heap.size, 0, none⟩)) (w.alloc (aobj 127 z65)) := by kernel_rfl
theorem build65 (w : World) : (Instr.build 127 #[]).run Tryz.prog w = .ok (.agg (arrU z65)) w := by kernel_rfl
theorem size65 {Z : List Int} (h : Z.length = 65) : (Tryz.prog.info? 127).map (·.size) = some Z.length := by rw [h]; kernel_rfl
theorem und65 : Tryz.prog.underlying 127 = some (.array 65 22) := by kernel_rfl

def hisCells (B W : Int) : Array Value := ⟨.int .u64 B :: .int .u64 W :: .int .u64 0 :: (List.replicate 520 (0 : Int)).map (Value.int .u64)⟩
theorem his_build (B W : Int) (w : World) :
    (Instr.build 179 #[(0, .int .u64 B), (1, .int .u64 W)]).run Tryz.prog w = .ok (.agg (hisCells B W)) w := by kernel_rfl

theorem new_his (B W : Nat) (w : World) (h1 : 1 ≤ B) (h8 : B ≤ 8) (hW : 1 ≤ W) (hW' : W ≤ 1099511627776) :
    Calls Tryz.prog 39 #[.int .i64 B, .int .u64 W] w fun r w' => r = .returned (.pointer (some ⟨w.heap.size, 0, none⟩)) ∧ His w' w.heap.size B W 0 (fun _ _ => 0) ∧ Below w.heap.size w w' := by
  have e1 : ¬ (B : Int) < 1 := by omega
  have e2 : ¬ (8 : Int) < (B : Int) := by omega
  have e3 : ¬ (W : Int) < 1 := by omega
  have e4 : ¬ (1099511627776 : Int) < (W : Int) := by omega
  have hr : His (w.alloc (.cells (hisCells B W) 179)) w.heap.size B W 0 (fun _ _ => 0) := ⟨⟨List.replicate 520 0, heap_alloc_at w _, LayH.new B 0 h1 h8⟩, h1, h8, hW, hW', by omega⟩
  have HR := Lib.hid hr
  have HB := Lib.hid (below_alloc w (.cells (hisCells B W) 179))
  clear hr
  go_enter Tryz.func39, Tryz.ntmps39
  go_wp2_with (refine wpList_buildH rfl 179 _ rfl (.agg (hisCells B W)) ?hb ?_; (case hb => kernel_rfl))
  go_ret
  exact ⟨rfl, HR.out, HB.out⟩

theorem hplace_any (b n B : Nat) (w : World) (hc : w.cell? ⟨b, 0, none⟩ = some (.int .u64 B)) (h1 : 1 ≤ B) :
    Calls Tryz.prog 126 #[.pointer (some ⟨b, 0, none⟩), .int .u64 n] w fun r w' => r = .returned (.int .u64 ((n % B : Nat) : Int)) ∧ w' = w := by
  have hne : ((B : Int) == 0) = false := by simp; omega
  go_enter Tryz.func126, Tryz.ntmps126
  go_wp2
  go_ret
  refine ⟨ret_int ?_, rfl⟩
  exact (Int.natCast_emod n B).symm

set_option maxRecDepth 100000 in
set_option maxHeartbeats 1000000 in
theorem reach_his (b B W t now : Nat) (F : Cnt) (w : World) (h : His w b B W t F) (hn : now ≤ 18446744073709551615) :
    Calls Tryz.prog 125 #[.pointer (some ⟨b, 0, none⟩), .int .u64 now] w fun r w' => r = .returned (.tuple #[]) ∧ Frm (· = b) w w' ∧ His w' b B W (max (now / W) t) F := by
  obtain ⟨Z, hb, hl⟩ := h.blk
  obtain ⟨c0, c1, c2⟩ := oobj_cells hb
  have hB1 := h.B1
  have hB8 := h.B8
  have hW1 := h.W1
  have hWm := h.Wm
  have htm := h.tm
  have hne : ((W : Int) == 0) = false := by simp; omega
  obtain ⟨q, hq⟩ : ∃ q, now / W = q := ⟨_, rfl⟩
  have hqm : q ≤ 18446744073709551615 := by rw [← hq]; exact Nat.le_trans (Nat.div_le_self _ _) hn
  have hwq : IntKind.u64.wrap ((now : Int) / (W : Int)) = (q : Int) := by rw [← Int.natCast_ediv, hq, IntKind.wrap_u64]; omega
  obtain ⟨t', ht'⟩ : ∃ t', max q t = t' := ⟨_, rfl⟩
  have htt : t ≤ t' ∧ t' ≤ 18446744073709551615 := by rw [← ht']; omega
  have hmx : (if q < t then (t : Int) else (q : Int)) = (t' : Int) := by rw [← ht']; split <;> omega
  obtain ⟨d, hd⟩ : ∃ d, t' - t = d := ⟨_, rfl⟩
  have hwd : IntKind.u64.wrap ((t' : Int) - (t : Int)) = (d : Int) := by rw [IntKind.wrap_u64]; omega
  obtain ⟨m, hm⟩ : ∃ m, (if d < B then d else B) = m := ⟨_, rfl⟩
  have hmn : (if B < d then (B : Int) else (d : Int)) = (m : Int) := by rw [← hm]; split <;> split <;> omega
  have hmn' : (if d < B then (d : Int) else (B : Int)) = (m : Int) := by rw [← hm]; split <;> omega
  have hm8 : m ≤ B ∧ m ≤ t' := by rw [← hm]; split <;> omega
  have HB := Lib.hid hb
  have HL := Lib.hid hl
  have HW := Lib.hid h
  have HQ := Lib.hid hq
  have HT := Lib.hid ht'
  have HD := Lib.hid hd
  have HM := Lib.hid hm
  clear h hb hl hq ht' hd hm
  go_enter Tryz.func125, Tryz.ntmps125
  go_wp2
  go_region
  go_wp2
  go_region
  go_wp2
  go_loopg [30] m (fun k v30 wr => ∃ (i : Nat) (Z' : List Int), i + k = m ∧ v30 = .int .u64 i ∧ wr.heap[b]? = some (oobj B W t Z') ∧ ClrH B t' i Z Z' ∧ Frm (· = b) w wr)
  case atStart =>
    refine ⟨0, Z, by omega, rfl, HB.out, ⟨HL.out.len, fun p k hp hk => ⟨fun ⟨j, hj, _⟩ => by omega, fun _ => rfl⟩⟩, ?_⟩
    exact Frm.of_ali ((drew_ali _).trans (drew_ali _))
  case round =>
    obtain ⟨i, Z', hi, rfl, hb, hu, hf⟩ := hrel
    have HI := Lib.hid hi
    have HU := Lib.hid hu
    have HB' := Lib.hid hb
    have HF := Lib.hid hf
    by_cases hlt : i < m
    · obtain ⟨n, hn'⟩ : ∃ n, t' - i = n := ⟨_, rfl⟩
      obtain ⟨p, hp⟩ : ∃ p, n % B = p := ⟨_, rfl⟩
      have hpB : p < B := by rw [← hp]; exact Nat.mod_lt _ (by omega)
      have hwn : IntKind.u64.wrap ((t' : Int) - (i : Int)) = (n : Int) := by rw [IntKind.wrap_u64]; omega
      obtain ⟨e0, _, _⟩ := oobj_cells hb
      have hlen := hu.1
      generalize hwd : wr.drew = wd
      have hb2 : wd.heap[b]? = some (oobj B W t Z') := by rw [← hwd]; exact hb
      obtain ⟨f0, _, _⟩ := oobj_cells hb2
      have hpl := hplace_any b n B wd f0 hB1
      rw [hp] at hpl
      have hth : wd.there b (3 + p * 65) (arrU z65).size := fun j hj => by
        rw [arrU_size, z65_len] at hj
        exact ⟨by rw [Nat.add_assoc]; exact oobj_there hb2 hlen _ (by omega), frozen_of hb2 _⟩
      have hbz : ∀ ρ : Operand → Value, ∀ o : Oper, o.op = .build 127 #[] → (execOp ρ o).run Tryz.prog wd = .ok (.value (.agg (arrU z65))) wd := fun ρ o ho => by
        simp [execOp, ho, build65]
      have HBZ := Lib.hid hbz
      clear hbz
      have HWD := Lib.hid hwd
      have hfd : Frm (· = b) w wd := by rw [← hwd]; exact hf.ali (drew_ali _)
      have HX := Lib.hid (oobj_puts hb2 (p * 65) z65)
      have HY := Lib.hid (frm_setCells (F := (· = b)) (b := b) rfl (z65.map (Value.int .u64)) (3 + p * 65) w wd hfd)
      have HP := Lib.hid (show (t' - i) % B = p by rw [hn', hp])
      clear hfd
      have hlt' : (i : Int) < m := by omega
      have hp8 : (p : Int) < 8 := by omega
      clear hi hu hf hb
      go_wp2
      refine region_tail 10 (by kernel_rfl) (by kernel_rfl) ?_
      simp only [List.take_succ_cons, List.take_zero, List.drop_succ_cons, List.drop_zero]
      rw [HWD.out]
      repeat still_step
      still_call (hpl)
      repeat still_step
      try (refine wpStill_run rfl (.agg (arrU z65)) (HBZ.out _ _ rfl) ?_; repeat still_step)
      refine wpStill_nil ?_
      refine wpList_store_mid rfl 127 (.tmp 42) (.tmp 39) rfl b (3 + p * 65) (arrU z65) ?hx ?hy ?ht ?hi ?h1 ?_
      (case hx => exact rfl)
      (case hy => kernel_rfl)
      (case ht => exact hth)
      (case hi => rw [arrU_size]; exact size65 z65_len)
      (case h1 => exact arrU_one _)
      go_wp2
      go_roundg (m - (i + 1))
      case measure => have := HI.out; omega
      case rel =>
        exact ⟨i + 1, put Z' (p * 65) z65, by omega, by simp, HX.out, HU.out.step HP.out (by omega), HY.out⟩
    · have hlt' : ¬ (i : Int) < m := by omega
      obtain ⟨_, _, e2⟩ := oobj_cells hb
      have e3 := frozen_of hb 2
      clear hi hu hf hb
      go_wp2
      go_end0
      obtain rfl : i = m := by have := HI.out; omega
      have hq := HQ.out
      have ht' := HT.out
      refine ⟨rfl, HF.out.set (p := ⟨b, 2, none⟩) rfl _, ?_⟩
      rw [hq, ht']
      exact ⟨⟨Z', oobj_last HB'.out _, HL.out.reach hB1 hB8 htt.1 (by rw [← HM.out, ← HD.out]) HU.out⟩, hB1, hB8, hW1, hWm, htt.2⟩
end Go.Proofs.YtgnccpmkdgfjeaaGreat

namespace Go.Proofs.YtgnccpmkdgfjeaaGreat
set_option linter.unusedVariables false

/-- How many bits a number has. -/
def lenN (n : Nat) : Nat := if n = 0 then 0 else Nat.log2 n + 1
def lenS (x : Int) : Int := (lenN x.toNat : Int)
theorem lenN_zero : lenN 0 = 0 := rfl
theorem lenN_step {n : Nat} (h : 0 < n) : lenN n = lenN (n / 2) + 1 := by
  unfold lenN
  rw [if_neg (by omega), Nat.log2_def]
  by_cases h2 : 2 ≤ n
  · rw [if_pos h2, if_neg (by omega)]
  · rw [if_neg h2, if_pos (by omega)]
theorem lenN_shift : ∀ (k : Nat) {n : Nat}, 2 ^ k ≤ n → lenN n = k + lenN (n / 2 ^ k)
  | 0, n, _ => by simp
  | k + 1, n, h => by
    have hp : 0 < 2 ^ k := Nat.two_pow_pos k
    rw [Nat.pow_succ] at h
    rw [lenN_step (by omega), lenN_shift k (n := n / 2) (by omega), Nat.div_div_eq_div_mul, Nat.pow_succ, Nat.mul_comm 2]
    omega
theorem lenN_lt : ∀ (k : Nat) {n : Nat}, n < 2 ^ k → lenN n ≤ k
  | 0, n, h => by have : n = 0 := by simpa using h
                  subst this; simp [lenN_zero]
  | k + 1, n, h => by
    by_cases h0 : n = 0
    · subst h0; simp [lenN_zero]
    · rw [Nat.pow_succ] at h
      rw [lenN_step (by omega)]
      have := lenN_lt k (n := n / 2) (by omega)
      omega
theorem lenN_pow : ∀ (f : Nat) {n : Nat}, n < 2 ^ f → 0 < n → n / 2 ^ (lenN n - 1) = 1
  | 0, n, h, h0 => by simp at h; omega
  | f + 1, n, h, h0 => by
    rw [Nat.pow_succ] at h
    rw [lenN_step h0]
    by_cases h1 : n = 1
    · subst h1; rfl
    · have ih := lenN_pow f (n := n / 2) (by omega) (by omega)
      have hs := lenN_step (n := n / 2) (by omega)
      rw [show lenN (n / 2) + 1 - 1 = (lenN (n / 2) - 1) + 1 by omega, Nat.pow_succ, Nat.mul_comm, ← Nat.div_div_eq_div_mul]
      exact ih

theorem lenS_bd {x : Int} (h : 0 ≤ x) (h' : x ≤ 18446744073709551615) : 0 ≤ lenS x ∧ lenS x ≤ 64 := by
  unfold lenS
  have := lenN_lt 64 (n := x.toNat) (by omega)
  omega
theorem lenS_zero : lenS 0 = 0 := rfl
theorem lenS_half {x : Int} (h : 0 < x) : lenS x = lenS (x / 2) + 1 := by
  unfold lenS
  rw [lenN_step (n := x.toNat) (by omega)]
  have : (x / 2).toNat = x.toNat / 2 := by omega
  rw [this]; omega
theorem lenS_pos {x : Int} (h : 0 < x) : 1 ≤ lenS x := by
  have := lenS_half h
  unfold lenS at *; omega
theorem lenS_top {x : Int} (h : 0 < x) (h' : x ≤ 18446744073709551615) : x / 2 ^ (lenS x - 1).toNat = 1 := by
  obtain ⟨n, rfl⟩ := Int.eq_ofNat_of_zero_le (Int.le_of_lt h)
  have := lenN_pow 64 (n := n) (by omega) (by omega)
  have hp := lenS_pos h
  unfold lenS at *
  rw [Int.toNat_natCast] at *
  have e : ((lenN n : Int) - 1).toNat = lenN n - 1 := by omega
  rw [e]
  have : ((n / 2 ^ (lenN n - 1) : Nat) : Int) = ((1 : Nat) : Int) := by rw [this]
  rw [Int.natCast_ediv, Int.natCast_pow] at this
  exact this
theorem lenS_32 {x : Int} (h : 4294967296 ≤ x) : lenS x = 32 + lenS (x / 4294967296) := by
  unfold lenS
  rw [lenN_shift 32 (n := x.toNat) (by omega)]
  have : (x / 4294967296).toNat = x.toNat / 2 ^ 32 := by omega
  rw [this]; omega
theorem lenS_16 {x : Int} (h : 65536 ≤ x) : lenS x = 16 + lenS (x / 65536) := by
  unfold lenS
  rw [lenN_shift 16 (n := x.toNat) (by omega)]
  have : (x / 65536).toNat = x.toNat / 2 ^ 16 := by omega
  rw [this]; omega
theorem lenS_8 {x : Int} (h : 256 ≤ x) : lenS x = 8 + lenS (x / 256) := by
  unfold lenS
  rw [lenN_shift 8 (n := x.toNat) (by omega)]
  have : (x / 256).toNat = x.toNat / 2 ^ 8 := by omega
  rw [this]; omega

/-- A time without its lowest six bits, so many times. -/
def blkS (t l : Int) : Int := t / 64 ^ l.toNat
theorem pow64 (n : Nat) : (0 : Int) < 64 ^ n := Int.pow_pos (by decide)
theorem blkS_bd {t : Int} (l : Int) (h : 0 ≤ t) : 0 ≤ blkS t l ∧ blkS t l ≤ t := by
  unfold blkS
  have hp := pow64 l.toNat
  exact ⟨Int.ediv_nonneg h (by omega), Int.ediv_le_self _ h⟩
theorem blkS_zero {l : Int} : blkS 0 l = 0 := by unfold blkS; simp
theorem blkS_none {t l : Int} (h : l ≤ 0) : blkS t l = t := by
  unfold blkS; rw [show l.toNat = 0 by omega]; simp
theorem blkS_step {t : Int} (n : Nat) : blkS t (n + 1 : Nat) = blkS t n / 64 := by
  unfold blkS
  rw [Int.toNat_natCast, Int.toNat_natCast, Int.pow_succ, Int.ediv_ediv_of_nonneg (Int.le_of_lt (pow64 n))]
theorem blkS_lit {t : Int} : blkS t 1 = t / 64 ∧ blkS t 2 = t / 4096 ∧ blkS t 3 = t / 262144 ∧ blkS t 4 = t / 16777216 := ⟨rfl, rfl, rfl, rfl⟩
theorem pow_two64 (n : Nat) : (2 : Int) ^ (6 * n) = 64 ^ n := by rw [Int.pow_mul]; rfl
theorem blkS_high {t l : Int} (h : 0 ≤ t) (h' : t ≤ 18446744073709551615) (hl : 11 ≤ l) : blkS t l = 0 := by
  unfold blkS
  have h1 : (64 : Int) ^ 11 ≤ 64 ^ l.toNat := by
    have := Nat.pow_le_pow_right (n := 64) (by decide) (show 11 ≤ l.toNat by omega)
    have e : ((64 ^ 11 : Nat) : Int) ≤ ((64 ^ l.toNat : Nat) : Int) := Int.ofNat_le.mpr this
    rw [Int.natCast_pow, Int.natCast_pow] at e
    exact e
  have h2 : (64 : Int) ^ 11 = 73786976294838206464 := rfl
  exact Int.ediv_eq_zero_of_lt h (by omega)
theorem blkS_shift {t l : Int} (_h : 0 ≤ t) (_h' : t ≤ 18446744073709551615) (h0 : 0 ≤ l) (hl : l ≤ 10) : t / 2 ^ (6 * l).toNat = blkS t l := by
  unfold blkS
  rw [show (6 * l).toNat = 6 * l.toNat by omega, pow_two64]
theorem blkS_blk {t : Int} (m n : Nat) : blkS (blkS t m) n = blkS t (m + n : Nat) := by
  unfold blkS
  simp only [Int.toNat_natCast]
  rw [Int.pow_add, Int.ediv_ediv_of_nonneg (Int.le_of_lt (pow64 m))]
theorem blkS_next {t : Int} (m : Nat) : blkS (t + 64 ^ m) m = blkS t m + 1 := by
  unfold blkS
  simp only [Int.toNat_natCast]
  rw [Int.add_ediv_of_dvd_right (Int.dvd_refl _), Int.ediv_self (Int.ne_of_gt (pow64 m))]

/-- The level at which two times meet. -/
def levS (a b : Int) : Int :=
  if a / 64 = b / 64 then 0 else if a / 4096 = b / 4096 then 1 else if a / 262144 = b / 262144 then 2 else if a / 16777216 = b / 16777216 then 3 else 4
theorem levS_bd (a b : Int) : 0 ≤ levS a b ∧ levS a b ≤ 4 := by unfold levS; repeat' split <;> omega
theorem levS_comm (a b : Int) : levS a b = levS b a := by
  unfold levS
  simp only [@eq_comm _ (a / _)]

/-- A number's eight bytes. -/
def bytesL (x : Int) : List Int := [x / 72057594037927936 % 256, x / 281474976710656 % 256, x / 1099511627776 % 256, x / 4294967296 % 256, x / 16777216 % 256, x / 65536 % 256, x / 256 % 256, x % 256]
def bytesA (x : Int) : Array Value := #[.int .u8 (x / 72057594037927936 % 256), .int .u8 (x / 281474976710656 % 256), .int .u8 (x / 1099511627776 % 256), .int .u8 (x / 4294967296 % 256), .int .u8 (x / 16777216 % 256), .int .u8 (x / 65536 % 256), .int .u8 (x / 256 % 256), .int .u8 (x % 256)]
/-- Bytes read as a number. -/
def numS (l : List Int) : Int := l.foldl (fun x b => 256 * x + b) 0
/-- The last eight of some bytes, as a number. -/
def fromS (l : List Int) : Int := numS (l.drop (l.length - 8))
theorem numS_snoc (l : List Int) (b : Int) : numS (l ++ [b]) = 256 * numS l + b := by unfold numS; rw [List.foldl_append]; rfl
theorem numS_bd : ∀ (l : List Int), (∀ b ∈ l, 0 ≤ b ∧ b ≤ 255) → 0 ≤ numS l ∧ numS l < 256 ^ l.length := by
  have aux : ∀ (l : List Int) (s : Int), (∀ b ∈ l, 0 ≤ b ∧ b ≤ 255) → 0 ≤ s → 0 ≤ l.foldl (fun x b => 256 * x + b) s ∧ l.foldl (fun x b => 256 * x + b) s < (s + 1) * 256 ^ l.length := by
    intro l
    induction l with
    | nil => intro s _ h; simp; omega
    | cons b l ih =>
      intro s hl hs
      have hb := hl b (by simp)
      have := ih (256 * s + b) (fun x hx => hl x (by simp [hx])) (by omega)
      refine ⟨this.1, Int.lt_of_lt_of_le this.2 ?_⟩
      rw [List.length_cons, Int.pow_succ, Int.mul_comm (256 ^ l.length) 256, ← Int.mul_assoc]
      exact Int.mul_le_mul_of_nonneg_right (by omega) (Int.le_of_lt (Int.pow_pos (by decide)))
  intro l h
  have := aux l 0 h (by omega)
  simpa [numS] using this
theorem numS_lt {l : List Int} {n : Nat} (h : ∀ b ∈ l, 0 ≤ b ∧ b ≤ 255) (hl : l.length ≤ n) : 0 ≤ numS l ∧ numS l < 256 ^ n := by
  have := numS_bd l h
  refine ⟨this.1, Int.lt_of_lt_of_le this.2 ?_⟩
  have := Nat.pow_le_pow_right (n := 256) (by decide) hl
  have e : ((256 ^ l.length : Nat) : Int) ≤ ((256 ^ n : Nat) : Int) := Int.ofNat_le.mpr this
  rw [Int.natCast_pow, Int.natCast_pow] at e
  exact e
theorem numS_zeros (n : Nat) (l : List Int) : numS (List.replicate n 0 ++ l) = numS l := by
  unfold numS
  rw [List.foldl_append]
  have : ∀ n, (List.replicate n (0 : Int)).foldl (fun x b => 256 * x + b) 0 = 0 := by
    intro n
    induction n with
    | zero => rfl
    | succ n ih => rw [List.replicate_succ, List.foldl_cons]; exact ih
  rw [this]
theorem fromS_bytes {x : Int} (h : 0 ≤ x) (h' : x ≤ 18446744073709551615) : fromS (bytesL x) = x := by
  unfold fromS bytesL numS
  simp
  omega
theorem fromS_short {l : List Int} (h : l.length ≤ 8) : fromS l = numS l := by
  unfold fromS
  rw [show l.length - 8 = 0 by omega, List.drop_zero]
theorem fromS_long (m l : List Int) : fromS (m ++ (List.replicate 8 0 ++ l)) = fromS l := by
  unfold fromS
  have e : (m ++ (List.replicate 8 0 ++ l)).length - 8 = m.length + l.length := by simp; omega
  rw [e, List.drop_append, List.drop_of_length_le (by omega), List.nil_append, show m.length + l.length - m.length = l.length by omega, List.drop_append]
  by_cases h : l.length ≤ 8
  · rw [show l.length - 8 = 0 by omega]
    rw [show l.length - (List.replicate 8 (0 : Int)).length = 0 by simp; omega]
    rw [List.drop_replicate, numS_zeros]
  · rw [List.drop_of_length_le (by simp; omega), List.nil_append]
    simp
theorem numS_take (zs : List Int) (k : Nat) (hk : k < zs.length) : numS (zs.take (k + 1)) = 256 * numS (zs.take k) + zs.getD k 0 := by
  rw [List.take_add_one, List.getElem?_eq_getElem hk, Option.toList_some, numS_snoc]
  simp [List.getD, List.getElem?_eq_getElem hk]
theorem fromS_take_short (zs : List Int) (n : Nat) (h : n ≤ 8) : fromS (zs.take n) = numS (zs.take n) := fromS_short (by simp; omega)
theorem fromS_take_long (zs : List Int) (m : Nat) (h : m + 8 ≤ zs.length) : fromS (zs.take (m + 8)) = numS ((zs.drop m).take 8) := by
  unfold fromS
  rw [List.length_take, show min (m + 8) zs.length - 8 = m by omega, List.drop_take]
  simp
theorem numS_in (zs : List Int) (k : Nat) (h : ∀ b ∈ zs, 0 ≤ b ∧ b ≤ 255) (hk : k ≤ 7) : 0 ≤ numS (zs.take k) ∧ numS (zs.take k) < 72057594037927936 :=
  numS_lt (n := 7) (fun b hb => h b (List.mem_of_mem_take hb)) (by simp; omega)
theorem fromS_bd (zs : List Int) (h : ∀ b ∈ zs, 0 ≤ b ∧ b ≤ 255) : 0 ≤ fromS zs ∧ fromS zs ≤ 18446744073709551615 := by
  have := numS_lt (n := 8) (l := zs.drop (zs.length - 8)) (fun b hb => h b (List.mem_of_mem_drop hb)) (by simp; omega)
  unfold fromS
  have e : (256 : Int) ^ 8 = 18446744073709551616 := rfl
  omega
theorem or_byte {x b : Int} (hx : 0 ≤ x) (hx' : x < 72057594037927936) (hb : 0 ≤ b) (hb' : b ≤ 255) : bits BinOp.or IntKind.u64 (x * 256) b = 256 * x + b := by
  rw [u64_or (x * 256) b (by omega) (by omega) hb (by omega)]
  rw [nat_join 8 (x * 256).toNat b.toNat (by omega) (by omega)]
  omega
theorem and63 {x : Int} (hx : 0 ≤ x) (hx' : x ≤ 18446744073709551615) : bits BinOp.and IntKind.u64 x 63 = x % 64 := by
  rw [u64_and x 63 hx (by omega) (by omega) (by omega), show (63 : Int).toNat = 63 from rfl, nat_mask6]
  omega
/-- A number as a shorter one. -/
def narS (x : Int) : Int := (x + 2147483648) % 4294967296 - 2147483648
end Go.Proofs.YtgnccpmkdgfjeaaGreat

namespace Go.Proofs.YtgnccpmkdgfjeaaGreat
set_option linter.unusedVariables false
open Go.ChangeShapes Go.WideShapes Go.ChangeAt Go.RowKit

/-- The table of the lengths below 256, as the library has it. -/
def len8 : ByteArray := ⟨#[0, 1, 2, 2, 3, 3, 3, 3, 4, 4, 4, 4, 4, 4, 4, 4, 5, 5, 5, 5, 5, 5, 5, 5, 5, 5, 5, 5, 5, 5, 5, 5, 6, 6, 6, 6, 6, 6, 6, 6, 6, 6, 6, 6, 6, 6, 6, 6, 6, 6, 6, 6, 6, 6, 6, 6, 6, 6, 6, 6, 6, 6, 6, 6, 7, 7, 7, 7, 7, 7, 7, 7, 7, 7, 7, 7, 7, 7, 7, 7, 7, 7, 7, 7, 7, 7, 7, 7, 7, 7, 7, 7, 7, 7, 7, 7, 7, 7, 7, 7, 7, 7, 7, 7, 7, 7, 7, 7, 7, 7, 7, 7, 7, 7, 7, 7, 7, 7, 7, 7, 7, 7, 7, 7, 7, 7, 7, 7, 8, 8, 8, 8, 8, 8, 8, 8, 8, 8, 8, 8, 8, 8, 8, 8, 8, 8, 8, 8, 8, 8, 8, 8, 8, 8, 8, 8, 8, 8, 8, 8, 8, 8, 8, 8, 8, 8, 8, 8, 8, 8, 8, 8, 8, 8, 8, 8, 8, 8, 8, 8, 8, 8, 8, 8, 8, 8, 8, 8, 8, 8, 8, 8, 8, 8, 8, 8, 8, 8, 8, 8, 8, 8, 8, 8, 8, 8, 8, 8, 8, 8, 8, 8, 8, 8, 8, 8, 8, 8, 8, 8, 8, 8, 8, 8, 8, 8, 8, 8, 8, 8, 8, 8, 8, 8, 8, 8, 8, 8, 8, 8, 8, 8, 8, 8, 8, 8, 8, 8, 8, 8, 8, 8, 8, 8, 8, 8]⟩
set_option maxRecDepth 100000 in
theorem len8_size : len8.size = 256 := by decide +kernel
set_option maxRecDepth 100000 in
theorem len8_all : ∀ i : Fin 256, (len8[i.1]'(by rw [len8_size]; exact i.2)).toNat = lenN i.1 := by decide +kernel
theorem len8_end {x y c : Int} (hy : 0 ≤ y) (hy' : y < 256) (hh : y.toNat < len8.size) (hx : lenS x = c + lenS y) (hb : 0 ≤ c ∧ c ≤ 56) :
    wrap64 (c + wrap64 ((len8[y.toNat]'hh).toNat : Int)) = lenS x := by
  have h1 := len8_all ⟨y.toNat, by omega⟩
  have h2 := lenN_lt 8 (n := y.toNat) (by omega)
  simp only at h1
  rw [h1, hx]
  unfold lenS wrap64
  omega
theorem len8_end0 {x : Int} (hy : 0 ≤ x) (hy' : x < 256) (hh : x.toNat < len8.size) :
    wrap64 (wrap64 ((len8[x.toNat]'hh).toNat : Int)) = lenS x := by
  have := len8_end (x := x) (y := x) (c := 0) hy hy' hh (by omega) (by omega)
  rwa [Int.zero_add] at this

set_option maxRecDepth 100000 in
set_option maxHeartbeats 400000 in
theorem len64_any (x : Int) (w : World) (h : 0 ≤ x) (h' : x ≤ 18446744073709551615) :
    Calls Tryz.prog 180 #[.int .u64 x] w fun e w' => e = .returned (.int .i64 (lenS x)) ∧ w = w' := by
  by_cases h1 : 4294967296 ≤ x
  · have e := lenS_32 h1
    go_enter Tryz.func180, Tryz.ntmps180
    clear e
    go_wp2
    all_goals go_ret
    · exact ⟨ret_int (len8_end (by omega) (by omega) _ (by rw [lenS_32 h1, lenS_16 (by assumption), lenS_8 (by assumption)]; omega) (by omega)), rfl⟩
    · exact ⟨ret_int (len8_end (by omega) (by omega) _ (by rw [lenS_32 h1, lenS_16 (by assumption)]; omega) (by omega)), rfl⟩
    · exact ⟨ret_int (len8_end (by omega) (by omega) _ (by rw [lenS_32 h1, lenS_8 (by assumption)]; omega) (by omega)), rfl⟩
    · exact ⟨ret_int (len8_end (by omega) (by omega) _ (by rw [lenS_32 h1]) (by omega)), rfl⟩
  · go_enter Tryz.func180, Tryz.ntmps180
    go_wp2
    all_goals go_ret
    · exact ⟨ret_int (len8_end (by omega) (by omega) _ (by rw [lenS_16 (by assumption), lenS_8 (by assumption)]; omega) (by omega)), rfl⟩
    · exact ⟨ret_int (len8_end (by omega) (by omega) _ (by rw [lenS_16 (by assumption)]) (by omega)), rfl⟩
    · exact ⟨ret_int (len8_end (by omega) (by omega) _ (by rw [lenS_8 (by assumption)]) (by omega)), rfl⟩
    · exact ⟨ret_int (len8_end0 (by omega) (by omega) _), rfl⟩

theorem len_any (x : Int) (w : World) (h : 0 ≤ x) (h' : x ≤ 18446744073709551615) :
    Calls Tryz.prog 166 #[.int .u64 x] w fun e w' => e = .returned (.int .i64 (lenS x)) ∧ w = w' := by
  go_enter Tryz.func166, Tryz.ntmps166
  go_wp2_with (go_at_call 180; refine (len64_any _ _ h h').mono ?_; rintro e w' ⟨rfl, rfl⟩)
  go_ret
  exact ⟨rfl, rfl⟩

end Go.Proofs.YtgnccpmkdgfjeaaGreat

namespace Go.Proofs.YtgnccpmkdgfjeaaGreat
set_option linter.unusedVariables false
open Go.ChangeShapes Go.WideShapes Go.ChangeAt Go.RowKit

theorem bin_any (x : Int) (w : World) (h : 0 ≤ x) (h' : x ≤ 18446744073709551615) :
    Calls Tryz.prog 127 #[.int .u64 x] w fun e w' => e = .returned (.int .i64 (lenS x)) ∧ w = w' := by
  go_enter Tryz.func127, Tryz.ntmps127
  go_wp2_with (go_at_call 166; refine (len_any _ _ h h').mono ?_; rintro e w' ⟨rfl, rfl⟩)
  go_ret
  exact ⟨rfl, rfl⟩

/-- The longest time of a bin. -/
def topN (b : Nat) : Int := 2 ^ b - 1
def topS (bin : Int) : Int := topN (if bin < 0 then 0 else if 64 < bin then 64 else bin.toNat)
theorem shift_fin : ∀ b : Fin 65, (18446744073709551615 : Int) / 2 ^ (64 - b.1) = topN b.1 := by decide +kernel
theorem shift_top {b : Nat} (h : b ≤ 64) : (18446744073709551615 : Int) / 2 ^ (64 - b) = topN b := shift_fin ⟨b, by omega⟩
theorem topS_nat {b : Nat} (h : b ≤ 64) : topS b = topN b := by unfold topS; rw [if_neg (by omega), if_neg (by omega), Int.toNat_natCast]
set_option maxHeartbeats 400000 in
theorem top_any (bin : Int) (w : World) (h : -9223372036854775808 ≤ bin) (h' : bin ≤ 9223372036854775807) :
    Calls Tryz.prog 114 #[.int .i64 bin] w fun e w' => e = .returned (.int .u64 (topS bin)) ∧ w = w' := by
  go_enter Tryz.func114, Tryz.ntmps114
  go_wp2
  all_goals go_ret
  · exact ⟨ret_int (by unfold topS; rw [if_neg (by omega), if_pos (by omega)]; rfl), rfl⟩
  · exact ⟨ret_int (by unfold topS; rw [if_pos (by omega)]; rfl), rfl⟩
  · exact ⟨ret_int (by unfold topS; rw [if_neg (by omega), if_neg (by omega), ← shift_top (b := bin.toNat) (by omega), show (64 - bin).toNat = 64 - bin.toNat by omega]), rfl⟩

theorem hadd_nil (now took : Int) (w : World) : Calls Tryz.prog 67 #[.pointer none, .int .u64 now, .int .u64 took] w fun r w' => r = .returned (.tuple #[]) ∧ w' = w := by
  go_enter Tryz.func67, Tryz.ntmps67
  go_wp2
  refine bodyPost_ret (results_none rfl _ _ _) rfl ?_
  exact ⟨rfl, rfl⟩

set_option maxRecDepth 100000 in
set_option maxHeartbeats 1000000 in
theorem hadd_his (b B W t now k : Nat) (took : Int) (F : Cnt) (w : World) (h : His w b B W t F) (hn : now ≤ 18446744073709551615) (h0 : 0 ≤ took) (h1 : took ≤ 18446744073709551615) (hk : lenS took = k) :
    Calls Tryz.prog 67 #[.pointer (some ⟨b, 0, none⟩), .int .u64 now, .int .u64 took] w fun r w' => r = .returned (.tuple #[]) ∧ Frm (· = b) w w' ∧
      His w' b B W (max (now / W) t) (upd F (max (now / W) t) k (addS (F (max (now / W) t) k) 1)) := by
  have hr := reach_his b B W t now F w h hn
  obtain ⟨t', ht'⟩ : ∃ t', max (now / W) t = t' := ⟨_, rfl⟩
  rw [ht'] at hr ⊢
  clear ht' h
  have hk64 : k ≤ 64 := by have := lenS_bd h0 h1; omega
  have hk5 : (k : Int) < 65 := by omega
  have HK := Lib.hid hk
  clear hk
  go_enter Tryz.func67, Tryz.ntmps67
  go_wp2_with fail
  refine hr.mono ?_
  clear hr
  rintro r w1 ⟨rfl, hf, hw⟩
  obtain ⟨Z, hb, hl⟩ := hw.blk
  have hB1 := hw.B1
  have hB8 := hw.B8
  obtain ⟨p, hp⟩ : ∃ p, t' % B = p := ⟨_, rfl⟩
  have hp8 : (p : Int) < 8 := by have := Nat.mod_lt t' (show 0 < B by omega); omega
  generalize hwd : w1.drew = wd
  have hb1 : wd.heap[b]? = some (oobj B W t' Z) := by rw [← hwd]; exact hb
  obtain ⟨c0, _, c2⟩ := oobj_cells hb1
  have hpl := hplace_any b t' B wd c0 hB1
  rw [hp] at hpl
  have hbn := (bin_any took wd h0 h1).mono (R' := fun e w' => e = .returned (.int .i64 k) ∧ w' = wd) (fun _ _ h => ⟨by rw [h.1, HK.out], h.2.symm⟩)
  have HWD := Lib.hid hwd
  have HF := Lib.hid hf
  have HW := Lib.hid hw
  have HB1 := Lib.hid hb1
  have HL := Lib.hid hl
  have HP := Lib.hid hp
  have hz : Z[p * 65 + k]? = some (F t' k) := by
    have := hl.here t' k (by omega) (by omega) (by omega)
    rwa [hp, Nat.mul_comm] at this
  have hbd := hl.bd t' k
  have q0 := oobj_cell hb1 hz
  rw [← Nat.add_assoc] at q0
  have q1 := frozen_of hb1 (3 + p * 65 + k)
  have hs := addS_bd hbd.1 (show (0 : Int) ≤ 1 by omega)
  have ha := add_any (F t' k) 1 wd hbd.1 (by omega) hbd.2 (by omega)
  have hlay := hl.add (k := k) (x := addS (F t' k) 1) hB1 hB8 (by omega) hs
  rw [hp, Nat.mul_comm 65 p] at hlay
  have hset := oobj_set hb1 (p * 65 + k) (addS (F t' k) 1)
  rw [← Nat.add_assoc] at hset
  generalize hX : upd F t' k (addS (F t' k) 1) = X at hlay
  have HXX := Lib.hid hX
  clear hX hz hf hw hb hl hp hb1
  generalize addS (F t' k) 1 = x at ha hlay hset hs
  generalize F t' k = y at ha q0 hbd
  have HLY := Lib.hid hlay
  have HST := Lib.hid hset
  clear hlay hset
  go_wp2
  refine region_tail 13 (by kernel_rfl) (by kernel_rfl) ?_
  simp only [List.take_succ_cons, List.take_zero, List.drop_succ_cons, List.drop_zero]
  rw [HWD.out]
  repeat still_step
  still_call (hpl)
  repeat still_step
  still_call (hbn)
  repeat still_step
  refine wpStill_nil ?_
  clear hpl hbn c0 c2
  go_wp2_with (go_at_call 112; refine ha.mono ?_; rintro e w' ⟨rfl, rfl⟩)
  go_end0
  have hfe : Frm (· = b) w wd := by rw [← HWD.out]; exact HF.out.ali (drew_ali _)
  refine ⟨rfl, hfe.set (F := (· = b)) (p := ⟨b, _, none⟩) rfl _, ?_⟩
  rw [HXX.out]
  exact ⟨⟨_, HST.out, HLY.out⟩, hB1, hB8, HW.out.W1, HW.out.Wm, HW.out.tm⟩
end Go.Proofs.YtgnccpmkdgfjeaaGreat

namespace Go.Proofs.YtgnccpmkdgfjeaaGreat
set_option linter.unusedVariables false
open Go.ChangeShapes Go.WideShapes Go.ChangeAt Go.RowKit

/-- What All tells. -/
def allL (F : Cnt) (t B : Nat) : List Int := (List.range 65).map fun k => satS (tot F t k B)
theorem allL_len (F : Cnt) (t B : Nat) : (allL F t B).length = 65 := by simp [allL]
theorem allL_at (F : Cnt) (t B : Nat) {k : Nat} (h : k < 65) : (allL F t B)[k]? = some (satS (tot F t k B)) := by simp [allL, h]
theorem allL_none (t B : Nat) : allL (fun _ _ => 0) t B = z65 := by
  apply List.ext_getElem?
  intro i
  by_cases hi : i < 65
  · rw [allL_at _ _ _ hi, z65_at hi, sat_none]
  · rw [List.getElem?_eq_none (by rw [allL_len]; omega), List.getElem?_eq_none (by rw [z65_len]; omega)]

/-- What a row of cells holds behind j buckets (and the bins below k one more). -/
def UpdH (Z T : List Int) (j k : Nat) : Prop := T.length = 65 ∧ ∀ i, i < 65 → T[i]? = some (satS (sumN (fun q => Z.getD (65 * q + i) 0) (if i < k then j + 1 else j)))
theorem UpdH.step {Z T : List Int} {j k : Nat} (h : UpdH Z T j k) (hk : k < 65) (hz : ∀ q, 0 ≤ Z.getD q 0) {x : Int} (hx : x = addS (satS (sumN (fun q => Z.getD (65 * q + k) 0) j)) (Z.getD (65 * j + k) 0)) : UpdH Z (T.set k x) j (k + 1) := by
  refine ⟨by simp [h.1], fun i hi => ?_⟩
  by_cases he : i = k
  · subst he
    rw [List.getElem?_set_self (by rw [h.1]; exact hi), if_pos (by omega), hx, addS_satS (sumN_nonneg fun _ _ => hz _) (hz _)]
    rfl
  · rw [List.getElem?_set_ne (by omega), h.2 i hi]
    by_cases hik : i < k
    · rw [if_pos hik, if_pos (by omega)]
    · rw [if_neg hik, if_neg (by omega)]
theorem UpdH.next {Z T : List Int} {j : Nat} (h : UpdH Z T j 65) : UpdH Z T (j + 1) 0 := by
  refine ⟨h.1, fun i hi => ?_⟩
  rw [h.2 i hi, if_pos hi, if_neg (by omega)]
theorem UpdH.start (Z : List Int) : UpdH Z z65 0 0 := ⟨z65_len, fun i hi => by rw [z65_at hi, if_neg (by omega)]; rfl⟩

theorem und58 : Tryz.prog.underlying 177 = some (.array 8 127) := by kernel_rfl
theorem size58 {Z : List Int} (h : Z.length = 520) : (Tryz.prog.info? 177).map (·.size) = some Z.length := by rw [h]; kernel_rfl
theorem index65 {Z : List Int} {k : Nat} {z : Int} (hk : k < 65) (hz : Z[k]? = some z) (w : World) : (Instr.index 127 (.agg (arrU Z)) (.int .i64 k)).run Tryz.prog w = .ok (.int .u64 z) w :=
  run_index_arr w 127 22 65 Z .i64 k z und65 (by kernel_rfl) (by kernel_rfl) hk hz
theorem index58 (Z : List Int) {j : Nat} (hj : j < 8) (w : World) : (Instr.index 177 (.agg (arrU Z)) (.int .i64 j)).run Tryz.prog w = .ok (.agg (arrU ((Z.drop (j * 65)).take 65))) w :=
  run_index_arrs w 177 127 8 65 Z .i64 j und58 (by kernel_rfl) (by kernel_rfl) hj
theorem row_at (Z : List Int) (hl : Z.length = 520) {j k : Nat} (hj : j < 8) (hk : k < 65) : ((Z.drop (j * 65)).take 65)[k]? = some (Z.getD (65 * j + k) 0) := by
  rw [List.getElem?_take_of_lt hk, List.getElem?_drop, List.getD_eq_getElem?_getD, Nat.mul_comm j 65, List.getElem?_eq_getElem (by omega)]
  rfl
theorem row_len (Z : List Int) (hl : Z.length = 520) {j : Nat} (hj : j < 8) : ((Z.drop (j * 65)).take 65).length = 65 := by simp [hl]; omega

theorem Frm.newH {F : Nat → Prop} {a w : World} (h : Frm F a w) {g : Nat} (hg : a.heap.size ≤ g) (o : Nat) (u : Value) : Frm F a (w.setCell ⟨g, o, none⟩ u) :=
  ⟨h.os, h.tape, h.output, by rw [heap_set_size]; exact h.size, fun j hj hn => by rw [heap_set_other (show j ≠ g by omega)]; exact h.block j hj hn⟩
/-- A store into a block that is new since a. -/
theorem Frm.then_new {F : Nat → Prop} {a w w' : World} (h : Frm F a w) {g : Nat} (hg : a.heap.size ≤ g) (hf : Frm (· = g) w w') : Frm F a w' := h.trans hf (fun j hj e => by subst e; omega)

set_option maxRecDepth 100000 in
set_option maxHeartbeats 400000 in
theorem hall_nil (now : Int) (w : World) : Calls Tryz.prog 110 #[.pointer none, .int .u64 now] w fun r w' => r = .returned (.agg (arrU z65)) ∧ Below w.heap.size w w' := by
  obtain ⟨g, hG⟩ : ∃ g, w.heap.size = g := ⟨_, rfl⟩
  go_enter Tryz.func110, Tryz.ntmps110
  go_wp2_with (first
    | (refine wpList_store_arr rfl 127 (.tmp 4) (.tmp 12) rfl g z65 z65 rfl rfl K2 rfl (size65 z65_len) ?_; rintro w3 K3 F3 _)
    | (refine wpList_load_arr rfl 127 (.tmp 5) rfl (g + 1) rfl z65 K1 65 22 und65 (size65 z65_len) ?_)
    | (refine wpList_alloc_arr rfl 127 rfl (g + 1) S1 z65 (alloc65 _) ?_; rintro w2 K1 B2 _; have K2 := kb_below K0 (B2.mono (by omega)))
    | (refine wpList_alloc_arr rfl 127 rfl g hG z65 (alloc65 _) ?_; rintro w1 K0 B1 S1))
  have hlv := run_load_arr (P := Tryz.prog) w3 127 g 65 22 z65 K3 und65 (size65 z65_len)
  refine bodyPost_ret (v := .agg (arrU z65)) (results_cell Tryz.results110 rfl hlv) rfl ⟨rfl, ?_⟩
  subst hG
  have h2 := B1.trans (B2.mono (by omega))
  exact h2.trans (F3.below h2.size (fun j hj e => by omega))

set_option maxRecDepth 100000 in
set_option maxHeartbeats 2000000 in
theorem hall_his (b B W t now : Nat) (F : Cnt) (w : World) (h : His w b B W t F) (hn : now ≤ 18446744073709551615) :
    Calls Tryz.prog 110 #[.pointer (some ⟨b, 0, none⟩), .int .u64 now] w fun r w' => r = .returned (.agg (arrU (allL F (max (now / W) t) B))) ∧ Frm (· = b) w w' ∧ His w' b B W (max (now / W) t) F := by
  obtain ⟨g, hG⟩ : ∃ g, w.heap.size = g := ⟨_, rfl⟩
  have hbg : b < g := by rw [← hG]; exact h.lt
  obtain ⟨t', ht'⟩ : ∃ t', max (now / W) t = t' := ⟨_, rfl⟩
  have hr := fun w2 h2 => reach_his b B W t now F w2 h2 hn
  rw [ht'] at hr ⊢
  have HR := Lib.hid hr
  have HH := Lib.hid h
  clear ht' h hr
  go_enter Tryz.func110, Tryz.ntmps110
  go_wp2_with (first
    | (refine wpList_alloc_arr rfl 127 rfl (g + 1) S1 z65 (alloc65 _) ?_; rintro w2 K1 B2 S2; have K2 := kb_below K0 (B2.mono (by omega)))
    | (refine wpList_alloc_arr rfl 127 rfl g hG z65 (alloc65 _) ?_; rintro w1 K0 B1 S1))
  have hb12 : Below w.heap.size w w2 := by rw [hG]; exact B1.trans (B2.mono (by omega))
  refine (HR.out w2 (HH.out.below hb12)).mono ?_
  rintro r w3 ⟨rfl, hf, hw⟩
  have f2 : Frm (· = b) w w3 := (Frm.of_below (F := (· = b)) hb12).trans hf (fun _ _ h => h)
  have g0 : w3.heap[g]? = some (aobj 127 z65) := by rw [hf.block g (by omega) (by omega)]; exact K2
  have g1 : w3.heap[g + 1]? = some (aobj 127 z65) := by rw [hf.block (g + 1) (by omega) (by omega)]; exact K1
  clear K0 K1 K2 B1 B2 S1 S2 hb12 hf HH HR
  obtain ⟨Z, hb, hl⟩ := hw.blk
  have hlen := hl.len
  have hld : w3.rangeAt b 3 (Z.map (Value.int .u64)) := fun j v hv => by
      simp only [List.getElem?_map, Option.map_eq_some_iff] at hv
      obtain ⟨z, hz, rfl⟩ := hv
      exact oobj_cell hb hz
  have hix := fun (j : Nat) (hj : j < 8) => index58 Z hj
  have hzz : ∀ q, 0 ≤ Z.getD q 0 ∧ Z.getD q 0 ≤ 18446744073709551615 := hl.cell hw.B1 hw.B8
  have HG := Lib.hid hG
  have HZ := Lib.hid hzz
  have HLD := Lib.hid hld
  have HLEN := Lib.hid hlen
  have HIX := Lib.hid hix
  have HF := Lib.hid f2
  have HW := Lib.hid hw
  have HL := Lib.hid hl
  have K0 := Lib.hid g0
  have K1 := Lib.hid g1
  clear hw hb hl hlen hix hzz f2 g0 g1 hld hG
  go_wp2_with (refine wpList_load_arrAt rfl 177 (.tmp 18) rfl b 3 rfl Z HLD.out 8 127 und58 (size58 HLEN.out) ?_)
  go_loopg [20] 8 (fun k v20 wr => ∃ (j : Nat) (T : List Int), j + k = 8 ∧ v20 = .int .i64 j ∧ wr.heap[g + 1]? = some (aobj 127 T) ∧ UpdH Z T j 0 ∧ wr.heap[g]? = some (aobj 127 z65) ∧ His wr b B W t' F ∧ Frm (· = b) w wr)
  case atStart => exact ⟨0, z65, rfl, rfl, K1.out, UpdH.start Z, K0.out, HW.out, HF.out⟩
  case round =>
    obtain ⟨j, T, hj, rfl, k1, hu, k0, hw, hf⟩ := hrel
    have HJ := Lib.hid hj
    have HU := Lib.hid hu
    have K1' := Lib.hid k1
    have K0' := Lib.hid k0
    have HW' := Lib.hid hw
    have HF' := Lib.hid hf
    by_cases hlt : j < 8
    · have hlt' : (j : Int) < 8 := by omega
      have hix := HIX.out j hlt
      have hrl := row_len Z HLEN.out hlt
      have hra := fun (k : Nat) (hk : k < 65) => row_at Z HLEN.out hlt hk
      generalize (Z.drop (j * 65)).take 65 = R at hix hrl hra
      have HRL := Lib.hid hrl
      have HRA := Lib.hid hra
      obtain ⟨q, hq⟩ : ∃ q, wr.heap.size = q := ⟨_, rfl⟩
      have hgq : g + 1 < q := by rw [← hq]; exact heap_lt k1
      have HQ := Lib.hid hq
      clear hj hu k1 k0 hw hf hrl hra hq
      go_wp2_with (first
        | (refine wpList_load_arr rfl 127 (.tmp 7) rfl q rfl R K4 65 22 und65 (size65 HRL.out) ?_)
        | (refine wpList_store_arr rfl 127 (.tmp 7) (.tmp 22) rfl q z65 R rfl rfl K3 (by rw [z65_len, HRL.out]) (size65 HRL.out) ?_; rintro wi K4 F4 S4)
        | (refine wpList_alloc_arr rfl 127 rfl q HQ.out z65 (alloc65 _) ?_; rintro wh K3 B3 S3))
      have hbi : Below q wr wi := B3.trans (F4.below (by omega) (fun j hj e => by omega))
      rw [← HQ.out] at hbi
      have I1 := Lib.hid (kb_below K1'.out hbi)
      have I0 := Lib.hid (kb_below K0'.out hbi)
      have IW := Lib.hid (HW'.out.below hbi)
      have IF := Lib.hid (HF'.out.then_below hbi)
      clear hbi K3 K4 B3 F4 S3 S4 hix
      go_loopg [24] 65 (fun kk v24 wr => ∃ (k : Nat) (T' : List Int), k + kk = 65 ∧ v24 = .int .i64 k ∧ wr.heap[g + 1]? = some (aobj 127 T') ∧ UpdH Z T' j k ∧ wr.heap[g]? = some (aobj 127 z65) ∧ His wr b B W t' F ∧ Frm (· = b) w wr)
      case atStart => exact ⟨0, T, rfl, rfl, I1.out, HU.out, I0.out, IW.out, IF.out⟩
      case round =>
        obtain ⟨k, T', hk, rfl, k1, hu, k0, hw, hf⟩ := hrel
        have HK := Lib.hid hk
        have HU' := Lib.hid hu
        have R1 := Lib.hid k1
        have R0 := Lib.hid k0
        have RW := Lib.hid hw
        have RF := Lib.hid hf
        by_cases hkl : k < 65
        · have hkl' : (k : Int) < 65 := by omega
          obtain ⟨x, hx⟩ : ∃ x, satS (sumN (fun q => Z.getD (65 * q + k) 0) j) = x := ⟨_, rfl⟩
          have hxb : 0 ≤ x ∧ x ≤ 18446744073709551615 := by rw [← hx]; exact satS_bd (sumN_nonneg fun _ _ => (HZ.out _).1)
          have hTx : T'[k]? = some x := by rw [hu.2 k hkl, if_neg (by omega), hx]
          have q0 := aobj_cell k1 hTx
          have f0 := aobj_frozen k1 k
          obtain ⟨z, hz⟩ : ∃ z, Z.getD (65 * j + k) 0 = z := ⟨_, rfl⟩
          have hzb := HZ.out (65 * j + k)
          have hik := index65 hkl (HRA.out k hkl)
          rw [hz] at hik hzb
          have hst := hu.step (x := addS x z) hkl (fun q => (HZ.out q).1) (by rw [hx, hz])
          have ha := add_any x z wr hxb.1 hzb.1 hxb.2 hzb.2
          have HST := Lib.hid hst
          have S1 := Lib.hid (aobj_set k1 k (addS x z))
          have S0 := Lib.hid ((heap_set_other (p := ⟨g + 1, k, none⟩) (k := g) (by simp) (.int .u64 (addS x z))).trans k0)
          have SW := Lib.hid (hw.keep (heap_set_other (p := ⟨g + 1, k, none⟩) (k := b) (by simp; omega) (.int .u64 (addS x z))))
          have SF := Lib.hid (hf.newH (g := g + 1) (by rw [HG.out]; omega) k (.int .u64 (addS x z)))
          generalize addS x z = y at *
          clear hk hu k1 k0 hw hf hx hTx hz hst
          go_wp2_with (go_at_call 112; refine ha.mono ?_; rintro e w5 ⟨rfl, rfl⟩)
          go_roundg (65 - (k + 1))
          case measure => have := HK.out; omega
          case rel => exact ⟨k + 1, T'.set k y, by omega, by simp, S1.out, HST.out, S0.out, SW.out, SF.out⟩
        · have hkl' : ¬ (k : Int) < 65 := by omega
          clear hk hu k1 k0 hw hf
          go_wp2
          obtain rfl : k = 65 := by have := HK.out; omega
          go_roundg (8 - (j + 1))
          case measure => have := HJ.out; omega
          case rel => exact ⟨j + 1, T', by omega, by simp, R1.out, HU'.out.next, R0.out, RW.out, RF.out⟩
    · have hlt' : ¬ (j : Int) < 8 := by omega
      obtain rfl : j = 8 := by omega
      have hT : T = allL F t' B := by
        have hw := HW'.out
        have hl := HL.out
        apply List.ext_getElem?
        intro i
        by_cases hi : i < 65
        · rw [hu.2 i hi, if_neg (by omega), hl.tot hw.B1 hw.B8 hi, allL_at _ _ _ hi]
        · rw [List.getElem?_eq_none (by rw [hu.1]; omega), List.getElem?_eq_none (by rw [allL_len]; omega)]
      rw [hT] at k1
      have hal := allL_len F t' B
      generalize hAA : allL F t' B = A at *
      have HAA := Lib.hid hAA
      have HA := Lib.hid hal
      have K1A := Lib.hid k1
      clear hj hu k1 k0 hw hf hT hal hAA
      go_wp2_with (first
        | (refine wpList_store_arr rfl 127 (.tmp 4) (.tmp 37) rfl g z65 A rfl rfl K0'.out (by rw [z65_len, HA.out]) (size65 HA.out) ?_; rintro we KE FE SE)
        | (refine wpList_load_arr rfl 127 (.tmp 5) rfl (g + 1) rfl A K1A.out 65 22 und65 (size65 HA.out) ?_))
      have hlv := run_load_arr (P := Tryz.prog) we 127 g 65 22 A KE und65 (size65 HA.out)
      refine bodyPost_ret (v := .agg (arrU A)) (results_cell Tryz.results110 rfl hlv) rfl ⟨by rw [HAA.out], ?_, ?_⟩
      · exact HF'.out.then_new (by rw [HG.out]; omega) FE
      · exact HW'.out.frm FE (by omega)
end Go.Proofs.YtgnccpmkdgfjeaaGreat

namespace Go.Proofs.YtgnccpmkdgfjeaaGreat
open Go.ChangeShapes Go.WideShapes Go.ChangeAt Go.RowKit

def sumS (l : List Int) : Int := l.foldl addS 0
theorem sumS_snoc (zs : List Int) (k : Nat) (hk : k < zs.length) : sumS (zs.take (k + 1)) = addS (sumS (zs.take k)) (zs.getD k 0) := by
  unfold sumS
  rw [List.take_add_one, List.foldl_append]
  simp [List.getD, List.getElem?_eq_getElem hk]
theorem sumS_bd_aux (l : List Int) (h : ∀ n ∈ l, 0 ≤ n) : ∀ s, 0 ≤ s → s ≤ 18446744073709551615 → 0 ≤ l.foldl addS s ∧ l.foldl addS s ≤ 18446744073709551615 := by
  induction l with
  | nil => intro s h1 h2; exact ⟨h1, h2⟩
  | cons n l ih =>
    intro s h1 h2
    have hn := h n (by simp)
    have := addS_bd h1 hn
    exact ih (fun m hm => h m (by simp [hm])) _ this.1 this.2
theorem sumS_bd (l : List Int) (h : ∀ n ∈ l, 0 ≤ n) : 0 ≤ sumS l ∧ sumS l ≤ 18446744073709551615 := sumS_bd_aux l h 0 (by omega) (by omega)
set_option maxHeartbeats 400000 in
theorem sum_any (a : Option Addr) (len cap : Nat) (zs : List Int) (w : World) (h : Row .u64 w a len zs) :
    Calls Tryz.prog 111 #[.slice a len cap] w fun e w' => e = .returned (.int .u64 (sumS (zs.take len))) ∧ w = w' := by
  obtain ⟨hz, hm, hc, hwf⟩ := h
  unfold maxLen at hm
  have HC := Lib.hid hc
  have HW := Lib.hid hwf
  clear hc hwf
  go_enter Tryz.func111, Tryz.ntmps111
  go_wp2
  go_loop [3, 8] (fun t i => ∃ k : Nat, k ≤ len ∧ i = .int .i64 k ∧ t = .int .u64 (sumS (zs.take k))) (fun _ i => len - (intOf i).toNat)
  case atStart => exact ⟨0, Nat.zero_le _, rfl, rfl⟩
  case round =>
    obtain ⟨k, hk, rfl, rfl⟩ := hrel
    by_cases hlt : k < len
    · obtain ⟨b, off, rfl, hc⟩ : ∃ b off, a = some ⟨b, off, none⟩ ∧ ∀ j, j < zs.length → w.cell? ⟨b, off + j, none⟩ = some (.int .u64 (zs.getD j 0)) := by
        rcases HC.out with h | h
        · omega
        · exact h
      have hcell := hc k (by omega)
      have hn := wf_u64 (wf_getD HW.out (j := k) (by omega))
      have hs := sumS_bd (zs.take k) (fun n hn => (wf_u64 (HW.out n (List.mem_of_mem_take hn))).1)
      have hsn := Lib.hid (sumS_snoc zs k (by omega))
      generalize zs.getD k 0 = z at *
      clear hc HC HW
      go_wp2_with (go_at_call 112; refine (add_any _ _ _ (by omega) (by omega) (by omega) (by omega)).mono ?_; rintro e w' ⟨rfl, rfl⟩)
      go_round
      case rel => exact ⟨k + 1, by omega, by go_num, by rw [hsn.out]⟩
      case measure => simp [intOf]; omega
    · go_wp2
      go_ret
      obtain rfl : k = len := by omega
      exact ⟨rfl, rfl⟩
set_option maxHeartbeats 400000 in
theorem rsum_any (a : Option Addr) (len cap : Nat) (zs : List Int) (w : World) (h : Row .u64 w a len zs) :
    Calls Tryz.prog 108 #[.slice a len cap] w fun e w' => e = .returned (.int .u64 (sumS (zs.take len))) ∧ w = w' := by
  obtain ⟨hz, hm, hc, hwf⟩ := h
  unfold maxLen at hm
  have HC := Lib.hid hc
  have HW := Lib.hid hwf
  clear hc hwf
  go_enter Tryz.func108, Tryz.ntmps108
  go_wp2
  go_loop [3, 4] (fun t i => ∃ k : Nat, k ≤ len ∧ i = .int .i64 k ∧ t = .int .u64 (sumS (zs.take k))) (fun _ i => len - (intOf i).toNat)
  case atStart => exact ⟨0, Nat.zero_le _, rfl, rfl⟩
  case round =>
    obtain ⟨k, hk, rfl, rfl⟩ := hrel
    by_cases hlt : k < len
    · obtain ⟨b, off, rfl, hc⟩ : ∃ b off, a = some ⟨b, off, none⟩ ∧ ∀ j, j < zs.length → w.cell? ⟨b, off + j, none⟩ = some (.int .u64 (zs.getD j 0)) := by
        rcases HC.out with h | h
        · omega
        · exact h
      have hcell := hc k (by omega)
      have hn := wf_u64 (wf_getD HW.out (j := k) (by omega))
      have hs := sumS_bd (zs.take k) (fun n hn => (wf_u64 (HW.out n (List.mem_of_mem_take hn))).1)
      have hsn := Lib.hid (sumS_snoc zs k (by omega))
      generalize zs.getD k 0 = z at *
      clear hc HC HW
      go_wp2_with (go_at_call 14; refine (radd_any _ _ _ (by omega) (by omega) (by omega) (by omega)).mono ?_; rintro e w' ⟨rfl, rfl⟩)
      go_round
      case rel => exact ⟨k + 1, by omega, by go_num, by rw [hsn.out]⟩
      case measure => simp [intOf]; omega
    · go_wp2
      go_ret
      obtain rfl : k = len := by omega
      exact ⟨rfl, rfl⟩
end Go.Proofs.YtgnccpmkdgfjeaaGreat

namespace Go.Proofs.YtgnccpmkdgfjeaaGreat
open Go.ChangeShapes Go.WideShapes Go.ChangeAt Go.RowKit

theorem mask32 (x : Int) (hx : 0 ≤ x) (hx' : x ≤ 18446744073709551615) : bits BinOp.and IntKind.u64 x 4294967295 = x % 4294967296 := by
  obtain ⟨n, rfl⟩ := Int.eq_ofNat_of_zero_le hx
  have h := bits_and_u64_nat n 4294967295 (by omega) (by omega)
  rw [show n &&& 4294967295 = n % 4294967296 from Nat.and_two_pow_sub_one_eq_mod n 32] at h
  rw [show (4294967295 : Int) = ((4294967295 : Nat) : Int) from rfl, h]
  omega
theorem wrapU (z : Int) (h : 0 ≤ z) (h' : z ≤ 18446744073709551615) : IntKind.u64.wrap z = z := by rw [IntKind.wrap_u64]; omega
theorem half_mul {a b : Int} (ha : 0 ≤ a) (hb : 0 ≤ b) (ha' : a ≤ 4294967295) (hb' : b ≤ 4294967295) : 0 ≤ a * b ∧ a * b ≤ 18446744065119617025 :=
  ⟨Int.mul_nonneg ha hb, Int.mul_le_mul ha' hb' hb (by omega)⟩
theorem halves (x y : Int) : x * y = (x / 4294967296) * (y / 4294967296) * 18446744073709551616 + ((x / 4294967296) * (y % 4294967296) + (x % 4294967296) * (y / 4294967296)) * 4294967296 + (x % 4294967296) * (y % 4294967296) := by
  have ex : x = (x / 4294967296) * 4294967296 + x % 4294967296 := by omega
  have ey : y = (y / 4294967296) * 4294967296 + y % 4294967296 := by omega
  generalize x / 4294967296 = a at *
  generalize x % 4294967296 = b at *
  generalize y / 4294967296 = c at *
  generalize y % 4294967296 = d at *
  subst ex ey
  simp only [Int.add_mul, Int.mul_add]
  have e1 : a * 4294967296 * (c * 4294967296) = a * c * 18446744073709551616 := by rw [Int.mul_assoc, Int.mul_left_comm 4294967296 c, Int.mul_assoc]; rfl
  have e2 : a * 4294967296 * d = a * d * 4294967296 := by rw [Int.mul_right_comm]
  have e3 : b * (c * 4294967296) = b * c * 4294967296 := by rw [Int.mul_assoc]
  omega

theorem hi64 (x y : Int) (hx : 0 ≤ x) (hy : 0 ≤ y) (hx' : x ≤ 18446744073709551615) (hy' : y ≤ 18446744073709551615) :
    IntKind.u64.wrap (IntKind.u64.wrap (IntKind.u64.wrap (x / 4294967296 * (y / 4294967296)) +
        IntKind.u64.wrap (IntKind.u64.wrap (x / 4294967296 * bits BinOp.and IntKind.u64 y 4294967295) +
          IntKind.u64.wrap (bits BinOp.and IntKind.u64 x 4294967295 * bits BinOp.and IntKind.u64 y 4294967295) / 4294967296) / 4294967296) +
      IntKind.u64.wrap (bits BinOp.and IntKind.u64 (IntKind.u64.wrap (IntKind.u64.wrap (x / 4294967296 * bits BinOp.and IntKind.u64 y 4294967295) +
          IntKind.u64.wrap (bits BinOp.and IntKind.u64 x 4294967295 * bits BinOp.and IntKind.u64 y 4294967295) / 4294967296)) 4294967295 +
        IntKind.u64.wrap (bits BinOp.and IntKind.u64 x 4294967295 * (y / 4294967296))) / 4294967296) = x * y / 18446744073709551616 := by
  rw [mask32 x hx hx', mask32 y hy hy']
  have e := halves x y
  have ba := half_mul (a := x / 4294967296) (b := y / 4294967296) (by omega) (by omega) (by omega) (by omega)
  have bb := half_mul (a := x / 4294967296) (b := y % 4294967296) (by omega) (by omega) (by omega) (by omega)
  have bc := half_mul (a := x % 4294967296) (b := y / 4294967296) (by omega) (by omega) (by omega) (by omega)
  have bd := half_mul (a := x % 4294967296) (b := y % 4294967296) (by omega) (by omega) (by omega) (by omega)
  rw [e]
  generalize x / 4294967296 * (y / 4294967296) = a at *
  generalize x / 4294967296 * (y % 4294967296) = b at *
  generalize x % 4294967296 * (y / 4294967296) = c at *
  generalize x % 4294967296 * (y % 4294967296) = d at *
  clear e hx hy hx' hy'
  rw [wrapU a (by omega) (by omega), wrapU b (by omega) (by omega), wrapU c (by omega) (by omega), wrapU d (by omega) (by omega), wrapU (b + d / 4294967296) (by omega) (by omega), mask32 _ (by omega) (by omega)]
  rw [wrapU (a + (b + d / 4294967296) / 4294967296) (by omega) (by omega), wrapU ((b + d / 4294967296) % 4294967296 + c) (by omega) (by omega), wrapU _ (by omega) (by omega)]
  omega

theorem ret_two {k : IntKind} {a b c d : Int} (h : a = b) (g : c = d) : Ending.returned (.tuple #[.int k a, .int k c]) = .returned (.tuple #[.int k b, .int k d]) := by rw [h, g]

set_option maxHeartbeats 1000000 in
theorem mul64_any (x y : Int) (w : World) (hx : 0 ≤ x) (hy : 0 ≤ y) (hx' : x ≤ 18446744073709551615) (hy' : y ≤ 18446744073709551615) :
    Calls Tryz.prog 155 #[.int .u64 x, .int .u64 y] w fun e w' => e = .returned (.tuple #[.int .u64 (x * y / 18446744073709551616), .int .u64 (x * y % 18446744073709551616)]) ∧ w = w' := by
  have hi := Lib.hid (hi64 x y hx hy hx' hy')
  go_enter Tryz.func155, Tryz.ntmps155
  go_wp2
  go_ret2
  exact ⟨ret_two hi.out (IntKind.wrap_u64 _), rfl⟩
end Go.Proofs.YtgnccpmkdgfjeaaGreat

namespace Go.Proofs.YtgnccpmkdgfjeaaGreat
open Go.ChangeShapes Go.WideShapes Go.ChangeAt Go.RowKit

def partB (part whole percent : Int) : Bool := decide ((if percent < 0 then 0 else percent) * whole ≤ 100 * part)
set_option maxHeartbeats 400000 in
theorem atLeast_any (a b p : Int) (w : World) (ha : 0 ≤ a) (hb : 0 ≤ b) (ha' : a ≤ 18446744073709551615) (hb' : b ≤ 18446744073709551615) (hp : -9223372036854775808 ≤ p) (hp' : p ≤ 9223372036854775807) :
    Calls Tryz.prog 113 #[.int .u64 a, .int .u64 b, .int .i64 p] w fun e w' => e = .returned (.bool (partB a b p)) ∧ w = w' := by
  go_enter Tryz.func113, Tryz.ntmps113
  go_wp2_with (go_at_call 155; refine (mul64_any _ _ _ (by omega) (by omega) (by omega) (by omega)).mono ?_; rintro e w' ⟨rfl, rfl⟩)
  all_goals go_ret
  all_goals refine ⟨ret_bool ?_, rfl⟩
  all_goals unfold partB
  all_goals have hpb := Int.mul_comm b p
  all_goals simp only [bne_iff_ne, ne_eq, bne_eq_false_iff_eq] at *
  all_goals split
  all_goals first | omega | (rw [decide_eq_decide]; omega)

theorem tdivU {z : Int} (h : 0 ≤ z) : z.tdiv 4294967296 = z / 4294967296 := Int.tdiv_eq_ediv_of_nonneg h
theorem tmodU {z : Int} (h : 0 ≤ z) : z.tmod 4294967296 = z % 4294967296 := Int.tmod_eq_emod_of_nonneg h
theorem wide_math (x y : Int) (hx : 0 ≤ x) (hy : 0 ≤ y) (hx' : x ≤ 18446744073709551615) (hy' : y ≤ 18446744073709551615) :
    IntKind.u64.wrap (IntKind.u64.wrap (IntKind.u64.wrap (IntKind.u64.wrap (x / 4294967296 * (y / 4294967296)) +
              IntKind.u64.wrap ((IntKind.u64.wrap (x / 4294967296 * (y % 4294967296))).tdiv 4294967296)) +
          IntKind.u64.wrap ((IntKind.u64.wrap (x % 4294967296 * (y / 4294967296))).tdiv 4294967296)) +
      IntKind.u64.wrap ((IntKind.u64.wrap (IntKind.u64.wrap (IntKind.u64.wrap ((IntKind.u64.wrap (x % 4294967296 * (y % 4294967296))).tdiv 4294967296) +
                    (IntKind.u64.wrap (x / 4294967296 * (y % 4294967296))).tmod 4294967296) +
                (IntKind.u64.wrap (x % 4294967296 * (y / 4294967296))).tmod 4294967296)).tdiv 4294967296)) = x * y / 18446744073709551616 ∧
    IntKind.u64.wrap ((IntKind.u64.wrap (x % 4294967296 * (y % 4294967296))).tmod 4294967296 +
      IntKind.u64.wrap ((IntKind.u64.wrap (IntKind.u64.wrap (IntKind.u64.wrap ((IntKind.u64.wrap (x % 4294967296 * (y % 4294967296))).tdiv 4294967296) +
                      (IntKind.u64.wrap (x / 4294967296 * (y % 4294967296))).tmod 4294967296) +
                  (IntKind.u64.wrap (x % 4294967296 * (y / 4294967296))).tmod 4294967296)).tmod 4294967296 * 4294967296)) = x * y % 18446744073709551616 := by
  have e := halves x y
  have ba := half_mul (a := x / 4294967296) (b := y / 4294967296) (by omega) (by omega) (by omega) (by omega)
  have bb := half_mul (a := x / 4294967296) (b := y % 4294967296) (by omega) (by omega) (by omega) (by omega)
  have bc := half_mul (a := x % 4294967296) (b := y / 4294967296) (by omega) (by omega) (by omega) (by omega)
  have bd := half_mul (a := x % 4294967296) (b := y % 4294967296) (by omega) (by omega) (by omega) (by omega)
  rw [e]
  generalize x / 4294967296 * (y / 4294967296) = a at *
  generalize x / 4294967296 * (y % 4294967296) = b at *
  generalize x % 4294967296 * (y / 4294967296) = c at *
  generalize x % 4294967296 * (y % 4294967296) = d at *
  clear e hx hy hx' hy'
  rw [wrapU a (by omega) (by omega), wrapU b (by omega) (by omega), wrapU c (by omega) (by omega), wrapU d (by omega) (by omega), tdivU bb.1, tdivU bc.1, tdivU bd.1, tmodU bb.1, tmodU bc.1, tmodU bd.1]
  rw [wrapU (b / 4294967296) (by omega) (by omega), wrapU (c / 4294967296) (by omega) (by omega), wrapU (d / 4294967296) (by omega) (by omega)]
  rw [wrapU (d / 4294967296 + b % 4294967296) (by omega) (by omega), wrapU (d / 4294967296 + b % 4294967296 + c % 4294967296) (by omega) (by omega)]
  rw [tdivU (by omega), tmodU (by omega)]
  rw [wrapU (a + b / 4294967296) (by omega) (by omega), wrapU (a + b / 4294967296 + c / 4294967296) (by omega) (by omega)]
  simp only [IntKind.wrap_u64]
  omega

theorem ratLeast_math1 {a b : Int} {p : Int} (_ha : 0 ≤ a) (_hb : 0 ≤ b) (hp : ¬ p < 0) (q : Bool) (h : q = decide (p * b ≤ 100 * a)) : q = partB a b p := by
  unfold partB; rw [if_neg hp]; exact h

set_option maxHeartbeats 400000 in
theorem wide_any (x y : Int) (w : World) (hx : 0 ≤ x) (hy : 0 ≤ y) (hx' : x ≤ 18446744073709551615) (hy' : y ≤ 18446744073709551615) :
    Calls Tryz.prog 133 #[.int .u64 x, .int .u64 y] w fun e w' => e = .returned (.tuple #[.int .u64 (x * y / 18446744073709551616), .int .u64 (x * y % 18446744073709551616)]) ∧ w = w' := by
  have hm := Lib.hid (wide_math x y hx hy hx' hy')
  go_enter Tryz.func133, Tryz.ntmps133
  go_wp2
  go_ret2
  exact ⟨ret_two hm.out.1 hm.out.2, rfl⟩

set_option maxHeartbeats 400000 in
theorem ratLeast_any (a b p : Int) (w : World) (ha : 0 ≤ a) (hb : 0 ≤ b) (ha' : a ≤ 18446744073709551615) (hb' : b ≤ 18446744073709551615) (hp : -9223372036854775808 ≤ p) (hp' : p ≤ 9223372036854775807) :
    Calls Tryz.prog 72 #[.int .u64 a, .int .u64 b, .int .i64 p] w fun e w' => e = .returned (.bool (partB a b p)) ∧ w = w' := by
  go_enter Tryz.func72, Tryz.ntmps72
  go_wp2_with (go_at_call 133; refine (wide_any _ _ _ (by omega) (by omega) (by omega) (by omega)).mono ?_; rintro e w' ⟨rfl, rfl⟩)
  all_goals go_ret
  all_goals refine ⟨ret_bool ?_, rfl⟩
  all_goals unfold partB
  all_goals (have hpz : p ≤ 0 → (if p < 0 then 0 else p) * b = 0 := by intro h; (split <;> first | simp | (rw [show p = 0 by omega]; simp)))
  all_goals (have hpq : 0 < p → (if p < 0 then 0 else p) * b = p * b := by intro h; rw [if_neg (by omega)])
  all_goals first | (rw [hpq (by assumption)]) | (rw [hpz (by assumption)])
  all_goals clear hpz hpq
  all_goals first | (rw [decide_eq_decide]; omega) | (symm; rw [decide_eq_true_eq]; omega) | go_show

end Go.Proofs.YtgnccpmkdgfjeaaGreat

namespace Go.Proofs.YtgnccpmkdgfjeaaGreat
set_option linter.unusedVariables false
open Go.ChangeShapes Go.WideShapes Go.ChangeAt Go.RowKit

/-- Are those up to bin i at least that percent of all? -/
def okP (A : List Int) (p : Int) (i : Nat) : Bool := decide (0 < sumS (A.take (i + 1))) && partB (sumS (A.take (i + 1))) (sumS A) p
def pctN (A : List Int) (p : Int) : Option Nat := (List.range 65).find? (okP A p)
def pctX (A : List Int) (p : Int) : Int := match pctN A p with | some i => topN i | none => 0
def pctB (A : List Int) (p : Int) : Bool := (pctN A p).isSome
def clampP (p : Int) : Int := if p < 1 then 1 else if 100 < p then 100 else p
theorem pctN_some {A : List Int} {p : Int} {i : Nat} (hi : i < 65) (h : okP A p i = true) (hn : ∀ j, j < i → okP A p j = false) : pctN A p = some i := by
  unfold pctN
  rw [List.find?_range_eq_some]
  exact ⟨h, by simpa using hi, fun j hj => by simp [hn j hj]⟩
theorem pctN_none {A : List Int} {p : Int} (hn : ∀ j, j < 65 → okP A p j = false) : pctN A p = none := by
  unfold pctN
  rw [List.find?_eq_none]
  intro j hj
  simp at hj
  simp [hn j hj]
theorem pctN_inv {A : List Int} {p : Int} {i : Nat} (h : pctN A p = some i) : i < 65 ∧ okP A p i = true ∧ ∀ j, j < i → okP A p j = false := by
  unfold pctN at h
  rw [List.find?_range_eq_some] at h
  exact ⟨by simpa using h.2.1, h.1, fun j hj => by simpa using h.2.2 j hj⟩

/-- Numbers that are. -/
abbrev Ok65 (A : List Int) : Prop := A.length = 65 ∧ ∀ n ∈ A, 0 ≤ n ∧ n ≤ 18446744073709551615

set_option maxRecDepth 100000 in
set_option maxHeartbeats 1000000 in
theorem pct_of (q : Option Addr) (now percent : Int) (A : List Int) (R : World → Prop) (w : World) (hA : Ok65 A) (hp : -9223372036854775808 ≤ percent) (hp' : percent ≤ 9223372036854775807)
    (hall : Calls Tryz.prog 110 #[.pointer q, .int .u64 now] w fun r w' => r = .returned (.agg (arrU A)) ∧ R w') :
    Calls Tryz.prog 54 #[.pointer q, .int .u64 now, .int .i64 percent] w fun r w' => r = .returned (.tuple #[.int .u64 (pctX A (clampP percent)), .bool (pctB A (clampP percent))]) ∧ ∃ w1, R w1 ∧ Below w1.heap.size w1 w' := by
  obtain ⟨m, hm⟩ : ∃ m, clampP percent = m := ⟨_, rfl⟩
  have hmb : 1 ≤ m ∧ m ≤ 100 := by rw [← hm]; unfold clampP; split <;> (try split) <;> omega
  rw [hm]
  obtain ⟨m1, hmx⟩ : ∃ m1, (if percent < 1 then (1 : Int) else percent) = m1 := ⟨_, rfl⟩
  have hmn : (if (100 : Int) < m1 then (100 : Int) else m1) = m := by rw [← hm, ← hmx]; unfold clampP; split <;> simp
  have hm1b : 1 ≤ m1 ∧ m1 ≤ 9223372036854775807 := by rw [← hmx]; split <;> omega
  have HM := Lib.hid hm
  have HA := Lib.hid hA
  clear hm hA
  go_enter Tryz.func54, Tryz.ntmps54
  go_wp2_with fail
  refine hall.mono ?_
  clear hall
  rintro r w1 ⟨rfl, hR⟩
  have HR := Lib.hid hR
  obtain ⟨g, hG⟩ : ∃ g, w1.heap.size = g := ⟨_, rfl⟩
  have HG := Lib.hid hG
  clear hR hG
  go_wp2_with (first
    | (refine wpList_store_arr rfl 127 (.tmp 8) (.tmp 15) rfl g z65 A rfl rfl K0 (by rw [z65_len, HA.out.1]) (size65 HA.out.1) ?_; rintro w3 K1 F3 S3)
    | (refine wpList_alloc_arr rfl 127 rfl g HG.out z65 (alloc65 _) ?_; rintro w2 K0 B2 S2))
  have hrow : Row .u64 w3 (some ⟨g, 0, none⟩) 65 A := by have := aobj_row K1 (by rw [HA.out.1]; decide) HA.out.2; rwa [HA.out.1] at this
  refine (sum_any (some ⟨g, 0, none⟩) 65 65 A w3 hrow).mono ?_
  rintro e w4 ⟨rfl, rfl⟩
  have hb3 : Below w1.heap.size w1 w3 := by rw [HG.out]; exact B2.trans (F3.below (by omega) (fun j hj e => by omega))
  have HB3 := Lib.hid hb3
  have K := Lib.hid K1
  rw [List.take_of_length_le (by rw [HA.out.1]; exact Nat.le_refl _)]
  have hbd : ∀ i, 0 ≤ sumS (A.take i) ∧ sumS (A.take i) ≤ 18446744073709551615 := fun i => sumS_bd _ (fun n hn => (HA.out.2 n (List.mem_of_mem_take hn)).1)
  have hwb := sumS_bd A (fun n hn => (HA.out.2 n hn).1)
  have hok : ∀ i, okP A m i = (decide (0 < sumS (A.take (i + 1))) && partB (sumS (A.take (i + 1))) (sumS A) m) := fun _ => rfl
  have hsn : ∀ i, i < 65 → sumS (A.take (i + 1)) = addS (sumS (A.take i)) (A.getD i 0) := fun i hi => sumS_snoc A i (by rw [HA.out.1]; exact hi)
  generalize sumS A = W at *
  have HBD := Lib.hid hbd
  have HSN := Lib.hid hsn
  have HOK := Lib.hid hok
  clear hrow hb3 K0 K1 B2 S2 F3 S3 hbd hsn hok
  go_wp2_with (refine wpList_load_arr rfl 127 (.tmp 8) rfl g rfl A K.out 65 22 und65 (size65 HA.out.1) ?_)
  go_loop [22, 10] (fun v22 v10 => ∃ i : Nat, i ≤ 65 ∧ v22 = .int .i64 i ∧ v10 = .int .u64 (sumS (A.take i)) ∧ ∀ j, j < i → okP A m j = false) (fun v22 _ => 65 - (intOf v22).toNat)
  case atStart => exact ⟨0, by omega, rfl, rfl, fun j hj => by omega⟩
  case round =>
    obtain ⟨i, hi, rfl, rfl, hno⟩ := hrel
    have HNO := Lib.hid hno
    clear hno
    by_cases hlt : i < 65
    · have hlt' : (i : Int) < 65 := by omega
      obtain ⟨z, hz⟩ : ∃ z, A.getD i 0 = z := ⟨_, rfl⟩
      have hAi : A[i]? = some z := by
        rw [List.getD_eq_getElem?_getD] at hz
        rw [List.getElem?_eq_getElem (by rw [HA.out.1]; exact hlt)] at hz ⊢
        exact congrArg some hz
      have hzb := HA.out.2 z (List.mem_of_getElem? hAi)
      have hik := index65 hlt hAi
      have hs := HSN.out i hlt
      have hb0 := HBD.out i
      have hb1 := HBD.out (i + 1)
      have ho := HOK.out i
      rw [hs] at ho hb1
      have HS := Lib.hid hs
      rw [hz] at ho hb1
      have HZ := Lib.hid hz
      have ha := fun v => add_any (sumS (A.take i)) z v hb0.1 hzb.1 hb0.2 hzb.2
      generalize hp0 : sumS (A.take i) = P0 at *
      have HP0 := Lib.hid hp0
      generalize hp1 : addS P0 z = P1 at *
      have HP1 := Lib.hid hp1
      have HO := Lib.hid ho
      have ht := fun v => top_any (i : Int) v (by omega) (by omega)
      rw [topS_nat (show i ≤ 64 by omega)] at ht
      have hat := fun v => atLeast_any P1 W m v hb1.1 hwb.1 hb1.2 hwb.2 (by omega) (by omega)
      clear hz hs ho hp0 hp1 hAi
      by_cases hP : 0 < P1
      · cases hB : partB P1 W m with
        | true =>
          rw [hB] at hat
          have hk : Hid (pctN A m = some i) := Lib.hid (pctN_some hlt (by rw [HO.out, hB]; simp [hP]) HNO.out)
          clear hB
          go_wp2_with (first
            | (go_at_call 112; refine (ha _).mono ?_; rintro e w5 ⟨rfl, rfl⟩)
            | (go_at_call 113; refine (hat _).mono ?_; rintro e w5 ⟨rfl, rfl⟩)
            | (go_at_call 114; refine (ht _).mono ?_; rintro e w5 ⟨rfl, rfl⟩))
          go_ret2
          refine ⟨?_, w1, HR.out, HB3.out⟩
          unfold pctX pctB
          rw [hk.out]
          rfl
        | false =>
          rw [hB] at hat
          have hk : Hid (okP A m i = false) := Lib.hid (by rw [HO.out, hB]; simp)
          clear hB
          go_wp2_with (first
            | (go_at_call 112; refine (ha _).mono ?_; rintro e w5 ⟨rfl, rfl⟩)
            | (go_at_call 113; refine (hat _).mono ?_; rintro e w5 ⟨rfl, rfl⟩))
          go_round
          case rel => exact ⟨i + 1, by omega, by go_num, by rw [HS.out, HZ.out, HP1.out], fun j hj => if e : j = i then by rw [e]; exact hk.out else HNO.out j (by omega)⟩
          case measure => simp [intOf]; omega
      · have hk : Hid (okP A m i = false) := Lib.hid (by rw [HO.out]; simp [hP])
        go_wp2_with (first
          | (go_at_call 112; refine (ha _).mono ?_; rintro e w5 ⟨rfl, rfl⟩))
        go_round
        case rel => exact ⟨i + 1, by omega, by go_num, by rw [HS.out, HZ.out, HP1.out], fun j hj => if e : j = i then by rw [e]; exact hk.out else HNO.out j (by omega)⟩
        case measure => simp [intOf]; omega
    · have hlt' : ¬ (i : Int) < 65 := by omega
      obtain rfl : i = 65 := by omega
      have hk : Hid (pctN A m = none) := Lib.hid (pctN_none HNO.out)
      go_wp2
      go_ret2
      refine ⟨?_, w1, HR.out, HB3.out⟩
      unfold pctX pctB
      rw [hk.out]
      rfl
end Go.Proofs.YtgnccpmkdgfjeaaGreat

namespace Go.Proofs.YtgnccpmkdgfjeaaGreat
open Go.ChangeShapes Go.WideShapes Go.ChangeAt Go.RowKit

/-- The sum of two numbers that lie in a row. -/
theorem sum_two (b off cap : Nat) (x y : Int) (w : World) (hx : 0 ≤ x) (hy : 0 ≤ y) (hx' : x ≤ 18446744073709551615) (hy' : y ≤ 18446744073709551615)
    (c0 : w.cell? ⟨b, off, none⟩ = some (.int .u64 x)) (c1 : w.cell? ⟨b, off + 1, none⟩ = some (.int .u64 y)) :
    Calls Tryz.prog 111 #[.slice (some ⟨b, off, none⟩) 2 cap] w fun e w' => e = .returned (.int .u64 (addS x y)) ∧ w = w' := by
  have h0 : addS 0 x = x := by unfold addS; rw [if_pos (by omega)]; omega
  have a0 := add_any 0 x w (by omega) hx (by omega) hx'
  rw [h0] at a0
  have a1 := add_any x y w hx hy hx' hy'
  clear h0
  generalize addS x y = z at *
  go_enter Tryz.func111, Tryz.ntmps111
  go_wp2
  refine wp_loop_rounds 3 ?_
  repeat any_goals (rw [rounds_succ]; go_wp2_with (go_at_call 112; first | (refine a0.mono ?_; clear a0; rintro e w' ⟨rfl, rfl⟩) | (refine a1.mono ?_; clear a1; rintro e w' ⟨rfl, rfl⟩)))
  all_goals (go_ret; exact ⟨rfl, rfl⟩)
end Go.Proofs.YtgnccpmkdgfjeaaGreat

namespace Go.Proofs.YtgnccpmkdgfjeaaGreat
set_option linter.unusedVariables false
set_option maxRecDepth 100000
open Go.ChangeShapes Go.WideShapes Go.ChangeAt Go.RowKit Go.Deep

/-- Counts of the five kinds. -/
structure K5 where
  c0 : Int
  c1 : Int
  c2 : Int
  c3 : Int
  c4 : Int
deriving DecidableEq
namespace K5
def L (k : K5) : List Int := [k.c0, k.c1, k.c2, k.c3, k.c4]
def vals (k : K5) : List Value := [.int .u64 k.c0, .int .u64 k.c1, .int .u64 k.c2, .int .u64 k.c3, .int .u64 k.c4]
structure Fits (k : K5) : Prop where
  f0 : 0 ≤ k.c0 ∧ k.c0 ≤ 18446744073709551615
  f1 : 0 ≤ k.c1 ∧ k.c1 ≤ 18446744073709551615
  f2 : 0 ≤ k.c2 ∧ k.c2 ≤ 18446744073709551615
  f3 : 0 ≤ k.c3 ∧ k.c3 ≤ 18446744073709551615
  f4 : 0 ≤ k.c4 ∧ k.c4 ≤ 18446744073709551615
def errs (k : K5) : Int := sumS [k.c1, k.c2, k.c3]
def vol (k : K5) : Int := addS k.c0 k.errs
def opens (k : K5) (volume percent : Int) : Bool := decide ((if 1 < volume then volume else 1) ≤ k.vol) && partB k.errs k.vol percent
def zero : K5 := ⟨0, 0, 0, 0, 0⟩
/-- Without what was short. -/
def bare (k : K5) : K5 := { k with c4 := 0 }
theorem len_vals (k : K5) : k.vals.length = 5 := rfl
theorem ones (k : K5) : Ones k.vals := by
  intro v hv
  simp only [vals, List.mem_cons, List.not_mem_nil, or_false] at hv
  rcases hv with rfl | rfl | rfl | rfl | rfl <;> rfl
theorem Fits.errs {k : K5} (h : k.Fits) : 0 ≤ k.errs ∧ k.errs ≤ 18446744073709551615 := sumS_bd _ (by
  intro n hn
  simp only [List.mem_cons, List.not_mem_nil, or_false] at hn
  have := h.f1.1; have := h.f2.1; have := h.f3.1
  rcases hn with rfl | rfl | rfl <;> assumption)
theorem Fits.vol {k : K5} (h : k.Fits) : 0 ≤ k.vol ∧ k.vol ≤ 18446744073709551615 := addS_bd h.f0.1 h.errs.1
theorem errs_eq {k : K5} (h : k.Fits) : k.errs = addS (addS k.c1 k.c2) k.c3 := by
  have h1 := h.f1
  unfold K5.errs sumS
  simp only [List.foldl]
  rw [show addS 0 k.c1 = k.c1 by unfold addS; rw [if_pos (by omega)]; omega]
/-- The errors, and the volume: all together, or the greatest number. -/
theorem errs_is {k : K5} (h : k.Fits) : k.errs = if k.c1 + k.c2 + k.c3 ≤ 18446744073709551615 then k.c1 + k.c2 + k.c3 else 18446744073709551615 := by
  have h1 := h.f1; have h2 := h.f2; have h3 := h.f3
  rw [errs_eq h]
  unfold addS
  repeat' split
  all_goals omega
theorem vol_is {k : K5} (h : k.Fits) : k.vol = if k.c0 + k.c1 + k.c2 + k.c3 ≤ 18446744073709551615 then k.c0 + k.c1 + k.c2 + k.c3 else 18446744073709551615 := by
  have h0 := h.f0; have h1 := h.f1; have h2 := h.f2; have h3 := h.f3
  unfold K5.vol
  rw [errs_is h]
  unfold addS
  repeat' split
  all_goals omega
theorem vals_inj {a b : K5} (h : a.vals = b.vals) : a = b := by
  cases a; cases b
  simpa [vals] using h
theorem bare_fits {k : K5} (h : k.Fits) : k.bare.Fits := ⟨h.f0, h.f1, h.f2, h.f3, ⟨by simp [bare], by simp [bare]⟩⟩
theorem zero_fits : K5.zero.Fits := ⟨by decide, by decide, by decide, by decide, by decide⟩
/-- Without calls there is no volume. -/
theorem vol_none {k : K5} (h : k.Fits) : k.bare = K5.zero ↔ k.vol = 0 := by
  have h0 := h.f0; have h1 := h.f1; have h2 := h.f2; have h3 := h.f3
  rw [vol_is h]
  constructor
  · intro e
    have e0 := congrArg K5.c0 e; have e1 := congrArg K5.c1 e; have e2 := congrArg K5.c2 e; have e3 := congrArg K5.c3 e
    simp only [bare, zero] at e0 e1 e2 e3
    rw [if_pos (by omega)]; omega
  · intro e
    split at e
    · unfold bare zero
      cases k
      simp only at *
      simp only [K5.mk.injEq]
      exact ⟨by omega, by omega, by omega, by omega, trivial⟩
    · omega
theorem flat {k : K5} (h : k.Fits) : Flat [.int .u64, .int .u64, .int .u64, .int .u64, .int .u64] k.vals :=
  ⟨⟨_, rfl, WalkArith.wf_u64 ⟨h.f0.1, by have := h.f0.2; omega⟩⟩, ⟨_, rfl, WalkArith.wf_u64 ⟨h.f1.1, by have := h.f1.2; omega⟩⟩, ⟨_, rfl, WalkArith.wf_u64 ⟨h.f2.1, by have := h.f2.2; omega⟩⟩, ⟨_, rfl, WalkArith.wf_u64 ⟨h.f3.1, by have := h.f3.2; omega⟩⟩, ⟨_, rfl, WalkArith.wf_u64 ⟨h.f4.1, by have := h.f4.2; omega⟩⟩, trivial⟩
end K5
theorem k5_flat {c : Array Value} (h : Flat [.int .u64, .int .u64, .int .u64, .int .u64, .int .u64] c.toList) : ∃ k : K5, c = aggV k.vals ∧ k.Fits := by
  obtain ⟨l⟩ := c
  match l, h with
  | [_, _, _, _, _], ⟨⟨n0, e0, u0⟩, ⟨n1, e1, u1⟩, ⟨n2, e2, u2⟩, ⟨n3, e3, u3⟩, ⟨n4, e4, u4⟩, _⟩ =>
    subst e0 e1 e2 e3 e4
    exact ⟨⟨n0, n1, n2, n3, n4⟩, rfl, ⟨wf_u64 u0, wf_u64 u1, wf_u64 u2, wf_u64 u3, wf_u64 u4⟩⟩
theorem undK : Tryz.prog.underlying 67 = some (.array 5 22) := by kernel_rfl
theorem sizeK5 (k : K5) : (Tryz.prog.info? 67).map (·.size) = some k.vals.length := by rw [k.len_vals]; kernel_rfl
theorem allocK (w : World) : (Instr.alloc 67 true (.tuple #[])).run Tryz.prog w = .ok (.pointer (some ⟨w.heap.size, 0, none⟩)) (w.alloc (vobj 67 K5.zero.vals)) := by kernel_rfl
theorem loadK5 {w : World} {g : Nat} {k : K5} (h : w.heap[g]? = some (vobj 67 k.vals)) : (loadVar 67 ⟨g, 0, none⟩).run Tryz.prog w = .ok (.agg (aggV k.vals)) w :=
  run_load_agg w _ g k.vals _ h undK rfl (sizeK5 k)
theorem cells5 {w : World} {g : Nat} {k : K5} {ty : TypeId} (h : w.heap[g]? = some (vobj ty k.vals)) : w.cell? ⟨g, 0, none⟩ = some (.int .u64 k.c0) ∧ w.cell? ⟨g, 1, none⟩ = some (.int .u64 k.c1) ∧ w.cell? ⟨g, 2, none⟩ = some (.int .u64 k.c2) ∧ w.cell? ⟨g, 3, none⟩ = some (.int .u64 k.c3) ∧ w.cell? ⟨g, 4, none⟩ = some (.int .u64 k.c4) :=
  ⟨vobj_cell h rfl, vobj_cell h rfl, vobj_cell h rfl, vobj_cell h rfl, vobj_cell h rfl⟩
theorem eq5_yes {a : K5} (h : a.Fits) (w : World) : (Op.equalIn 10000 67 (.agg (aggV a.vals)) (.agg (aggV a.vals))).run Tryz.prog w = .ok true w :=
  same_yes (P := Tryz.prog) (t := 67) 8 (by decide) (by kernel_rfl) (by kernel_rfl) (by kernel_rfl) (by kernel_rfl) (K5.flat h) w
theorem eq5_no {a b : K5} (h : a.Fits) (h' : b.Fits) (hn : a ≠ b) (w : World) : (Op.equalIn 10000 67 (.agg (aggV a.vals)) (.agg (aggV b.vals))).run Tryz.prog w = .ok false w :=
  same_no (P := Tryz.prog) (t := 67) 8 (by decide) (by kernel_rfl) (by kernel_rfl) (by kernel_rfl) (by kernel_rfl) (K5.flat h) (K5.flat h') (fun e => hn (K5.vals_inj (aggV_inj e))) w

set_option maxHeartbeats 1000000 in
theorem errors_any (k : K5) (w : World) (hk : k.Fits) : Calls Tryz.prog 165 #[.agg (aggV k.vals)] w fun r w' => r = .returned (.int .u64 k.errs) ∧ Below w.heap.size w w' := by
  obtain ⟨g, hg⟩ : ∃ g, w.heap.size = g := ⟨_, rfl⟩
  have hE : k.errs = sumS [k.c1, k.c2, k.c3] := rfl
  have HE := Lib.hid hE
  generalize k.errs = e at *
  have HG := Lib.hid hg
  clear hE
  go_enter Tryz.func165, Tryz.ntmps165
  go_wp2_with (refine wpList_box_agg rfl 67 _ rfl g hg k.vals rfl ?_; intro w1 h1 b1 s1; obtain ⟨p0, p1, p2, p3, p4⟩ := cells5 h1; clear h1)
  have hr : Row .u64 (w1.alloc (.cells #[.int .u64 k.c1, .int .u64 k.c2, .int .u64 k.c3] 22)) (some ⟨w1.heap.size, 0, none⟩) 3 [k.c1, k.c2, k.c3] := by
    refine ⟨Nat.le_refl _, by decide, .inr ⟨_, _, rfl, fun j hj => ?_⟩, ?_⟩
    · rw [cell_of (heap_alloc_at w1 _), Nat.zero_add]
      have hj' : j < 3 := hj
      rcases (show j = 0 ∨ j = 1 ∨ j = 2 by omega) with rfl | rfl | rfl <;> rfl
    · intro n hn
      simp only [List.mem_cons, List.not_mem_nil, or_false] at hn
      have f1 := hk.f1; have f2 := hk.f2; have f3 := hk.f3
      rcases hn with rfl | rfl | rfl
      all_goals exact WalkArith.wf_u64 (by omega)
  have hs := sum_any _ 3 3 _ _ hr
  rw [s1] at hs
  refine hs.mono ?_
  clear hs hr
  rintro r w2 ⟨rfl, rfl⟩
  go_wp2
  go_ret
  refine ⟨by rw [HE.out]; rfl, ?_⟩
  rw [HG.out]
  exact b1.trans ((below_alloc w1 _).mono (by omega))

set_option maxHeartbeats 1000000 in
theorem volume_any (k : K5) (w : World) (hk : k.Fits) : Calls Tryz.prog 164 #[.agg (aggV k.vals)] w fun r w' => r = .returned (.int .u64 k.vol) ∧ Below w.heap.size w w' := by
  obtain ⟨g, hg⟩ : ∃ g, w.heap.size = g := ⟨_, rfl⟩
  have hv : k.vol = addS k.c0 k.errs := rfl
  have hek : ∀ v, Calls Tryz.prog 165 #[.agg #[.int .u64 k.c0, .int .u64 k.c1, .int .u64 k.c2, .int .u64 k.c3, .int .u64 k.c4]] v fun r w' => r = .returned (.int .u64 k.errs) ∧ Below v.heap.size v w' := fun v => errors_any k v hk
  have heb := hk.errs
  have h0b := hk.f0
  have HS := Lib.hid (cells5 (w := w) (g := g) (k := k) (ty := 67))
  have hb : Hid (∀ w1 w2 : World, Below g w w1 → w1.heap[g]? = some (vobj 67 k.vals) → Below w1.heap.size w1 w2 → w2.cell? ⟨g, 0, none⟩ = some (.int .u64 k.c0) ∧ w2.cell? ⟨g, 1, none⟩ = some (.int .u64 k.c1) ∧ w2.cell? ⟨g, 2, none⟩ = some (.int .u64 k.c2) ∧ w2.cell? ⟨g, 3, none⟩ = some (.int .u64 k.c3) ∧ w2.cell? ⟨g, 4, none⟩ = some (.int .u64 k.c4)) :=
    Lib.hid (fun w1 w2 _ h1 h2 => cells5 (kb_below h1 h2))
  generalize k.vol = vo at *
  generalize k.errs = e at *
  generalize hc0 : k.c0 = x0 at *
  generalize k.c1 = x1 at *
  generalize k.c2 = x2 at *
  generalize k.c3 = x3 at *
  generalize k.c4 = x4 at *
  have HV := Lib.hid hv
  have HG := Lib.hid hg
  have HE := Lib.hid hek
  clear hv hc0 hek HS
  go_enter Tryz.func164, Tryz.ntmps164
  go_wp2_with (refine wpList_box_agg rfl 67 _ rfl g hg k.vals rfl ?_; intro w1 h1 b1 s1)
  obtain ⟨p0, p1, p2, p3, p4⟩ := hb.out w1 w1 b1 h1 (Below.refl _ _)
  obtain ⟨q0, q1, q2, q3, q4⟩ := hb.out w1 w1.drew b1 h1 (ali_below (drew_ali _))
  have HK : Hid (∀ w2 : World, Below w1.heap.size w1 w2 → w2.cell? ⟨g, 0, none⟩ = some (.int .u64 x0) ∧ w2.cell? ⟨g, 1, none⟩ = some (.int .u64 x1) ∧ w2.cell? ⟨g, 2, none⟩ = some (.int .u64 x2) ∧ w2.cell? ⟨g, 3, none⟩ = some (.int .u64 x3) ∧ w2.cell? ⟨g, 4, none⟩ = some (.int .u64 x4)) := Lib.hid (fun w2 hw2 => hb.out w1 w2 b1 h1 hw2)
  have B1 := Lib.hid b1
  have S1 := Lib.hid s1
  have D0 : Hid (Below w1.heap.size w1 w1.drew) := Lib.hid (ali_below (drew_ali _))
  clear b1 h1 s1 hb
  go_region_held3 (fun wx => wx.cell? ⟨g, 0, none⟩ = some (.int .u64 x0) ∧ wx.cell? ⟨g, 1, none⟩ = some (.int .u64 x1) ∧ wx.cell? ⟨g, 2, none⟩ = some (.int .u64 x2) ∧ wx.cell? ⟨g, 3, none⟩ = some (.int .u64 x3) ∧ wx.cell? ⟨g, 4, none⟩ = some (.int .u64 x4))
    (first
      | with_reducible exact HK.out _ D0.out
      | with_reducible exact HK.out _ t2
      | exact HK.out _ (t2.trans ((below_alloc _ _).mono t2.size)))
    (first
      | (go_at_call 111; refine (sum_two _ 0 2 x0 e _ h0b.1 heb.1 h0b.2 heb.2 (by rw [cell_of (heap_alloc_at _ _)]; rfl) (by rw [cell_of (heap_alloc_at _ _)]; rfl)).mono ?_; rintro r w3 ⟨rfl, rfl⟩)
      | (go_at_call 165; refine (HE.out _).mono ?_; rintro r w2 ⟨rfl, b2⟩; have t2 := D0.out.trans (b2.mono D0.out.size); clear b2))
  go_wp2
  go_ret
  refine ⟨by rw [HV.out]; rfl, ?_⟩
  rw [HG.out]
  exact B1.out.trans ((t2.trans ((below_alloc _ _).mono t2.size)).mono (by rw [S1.out]; omega))

set_option maxHeartbeats 1000000 in
theorem calls_any (k : K5) (w : World) : Calls Tryz.prog 163 #[.agg (aggV k.vals)] w fun r w' => r = .returned (.agg (aggV k.bare.vals)) ∧ Below w.heap.size w w' := by
  obtain ⟨g, hg⟩ : ∃ g, w.heap.size = g := ⟨_, rfl⟩
  have HG := Lib.hid hg
  have HX : Hid (k.vals.set 4 (.int .u64 0) = k.bare.vals) := Lib.hid rfl
  have HL : Hid (K5.zero.vals.length = k.bare.vals.length) := Lib.hid rfl
  have HS := Lib.hid (sizeK5 k.bare)
  have HO := Lib.hid k.bare.ones
  have H4 : Hid (4 < k.vals.length) := Lib.hid (by show 4 < 5; omega)
  generalize k.vals = kv at *
  have hb := @loadK5
  generalize hkb : k.bare.vals = kb at *
  go_enter Tryz.func163, Tryz.ntmps163
  go_wp2_with (first
    | (refine wpList_box_agg rfl 67 _ rfl g hg kv rfl ?_; intro w1 h1 b1 s1)
    | (refine wpList_alloc_agg rfl 67 rfl (g + 1) s1 K5.zero.vals (allocK _) ?_; intro w2 h2 b2 s2; have h1' := kb_below h1 (b2.mono (by omega)))
    | (refine wpList_store_one rfl 22 _ _ rfl g 4 67 kv (.int .u64 0) rfl rfl h1' H4.out (by kernel_rfl) rfl rfl ?_; intro w3 h3 f3 s3; rw [HX.out] at h3; have h2' := (f3.block (g + 1) (by omega) (by omega)).trans h2)
    | (refine wpList_load_agg rfl 67 _ rfl g rfl kb h3 _ undK rfl HS.out ?_)
    | (refine wpList_store_agg rfl 67 _ _ rfl (g + 1) K5.zero.vals kb rfl rfl h2' HL.out HS.out HO.out ?_; intro w4 h4 f4 s4))
  subst hkb
  refine bodyPost_ret (v := .agg (aggV k.bare.vals)) (results_agg Tryz.results163 rfl (loadK5 h4)) rfl ⟨rfl, ?_⟩
  rw [HG.out]
  exact ((b1.trans (b2.mono (by omega))).trans (f3.below (by omega) (fun j hj e => by omega))).trans (f4.below (by omega) (fun j hj e => by omega))

set_option maxHeartbeats 1000000 in
theorem opens_any (k : K5) (f : Cnf) (w : World) (hk : k.Fits) (hf : f.Fits) : Calls Tryz.prog 123 #[.agg (aggV k.vals), .agg (aggV f.vals)] w fun r w' => r = .returned (.bool (k.opens f.volume f.percent)) ∧ Below w.heap.size w w' := by
  obtain ⟨g, hg⟩ : ∃ g, w.heap.size = g := ⟨_, rfl⟩
  have HG := Lib.hid hg
  obtain ⟨V, hV⟩ : ∃ V, f.volume = V := ⟨_, rfl⟩
  obtain ⟨p, hp⟩ : ∃ p, f.percent = p := ⟨_, rfl⟩
  obtain ⟨ans, hans⟩ : ∃ ans, k.opens f.volume f.percent = ans := ⟨_, rfl⟩
  rw [hans]
  have hVb := hf.volume
  have hpb := hf.percent
  rw [hV] at hVb
  rw [hp] at hpb
  obtain ⟨mx, hmx⟩ : ∃ mx, (if V < 0 then 0 else V) = mx := ⟨_, rfl⟩
  have hmb : 0 ≤ mx ∧ mx ≤ 9223372036854775807 := by rw [← hmx]; split <;> omega
  have hwm : IntKind.u64.wrap mx = mx := by rw [IntKind.wrap_u64]; omega
  have HCC := Lib.hid (fun v => calls_any k v)
  have HVV := Lib.hid (fun v => volume_any k v hk)
  have HEE := Lib.hid (fun v => errors_any k v hk)
  have HLK : Hid (∀ (v : World) (ty : TypeId) (g : Nat), v.heap[g]? = some (vobj ty f.vals) → v.cell? ⟨g, 8, none⟩ = some (.int .i64 V) ∧ v.cell? ⟨g, 9, none⟩ = some (.int .i64 p)) := Lib.hid (fun v ty g h => ⟨by rw [← hV]; exact vobj_cell h rfl, by rw [← hp]; exact vobj_cell h rfl⟩)
  have HSK := Lib.hid (sizeK5 k)
  have HSZ := Lib.hid (sizeK5 K5.zero)
  have HAK := Lib.hid allocK
  have hvb := hk.vol
  have heb := hk.errs
  by_cases hz : k.bare = K5.zero
  · have he : ∀ w, (Op.equalIn 10000 67 (.agg (aggV k.bare.vals)) (.agg (aggV K5.zero.vals))).run Tryz.prog w = .ok true w := by rw [hz]; exact eq5_yes K5.zero_fits
    have h0 := (K5.vol_none hk).1 hz
    have ha : ans = false := by
      rw [← hans]; unfold K5.opens; rw [h0]
      simp only [Bool.and_eq_false_imp, decide_eq_true_eq]
      intro h; split at h <;> omega
    subst ha
    clear hz hans h0 hmx hmb hwm
    generalize k.vals = kv at *
    generalize k.bare.vals = bv at *
    generalize K5.zero.vals = zv at *
    generalize f.vals = fv at *
    go_enter Tryz.func123, Tryz.ntmps123
    go_wp2_with (first
      | (refine wpList_box_agg rfl 67 _ rfl g hg kv rfl ?_; intro w1 h1 b1 s1)
      | (refine wpList_box_agg rfl 24 _ rfl (g + 1) s1 fv rfl ?_; intro w2 h2 b2 s2; have h1' := kb_below h1 (b2.mono (by omega)))
      | (refine wpList_alloc_agg rfl 67 rfl (g + 2) s2 zv (HAK.out _) ?_; intro w3 h3 b3 s3))
    have k1 := kb_below h1' (b3.mono (by omega))
    have k2 := kb_below h2 (b3.mono (by omega))
    have B3 := Lib.hid ((b1.trans (b2.mono (by omega : g ≤ g + 1))).trans (b3.mono (by omega : g ≤ g + 2)))
    clear h1 h2 h1' b1 b2 b3 s1 s2
    have ld : ∀ p : Later w3, (Instr.loadAt 67 (.pointer (some ⟨g, 0, none⟩))).run Tryz.prog p.v = .ok (.agg (aggV kv)) p.v := fun p => run_loadAt_agg _ _ _ _ _ (p.heap k1) undK rfl HSK.out
    have lz : ∀ p : Later w3, (Instr.loadAt 67 (.pointer (some ⟨g + 2, 0, none⟩))).run Tryz.prog p.v = .ok (.agg (aggV zv)) p.v := fun p => run_loadAt_agg _ _ _ _ _ (p.heap h3) undK rfl HSZ.out
    refine wp_region_later (by kernel_rfl) (by kernel_rfl) ?_
    repeat (first
      | (refine wpQuiet_load rfl 67 _ rfl g rfl (.agg (aggV kv)) ld ?_; simp only [Act.put, List.setIfInBounds_toArray, List.set_cons_zero, List.set_cons_succ])
      | (refine wpQuiet_load rfl 67 _ rfl (g + 2) rfl (.agg (aggV zv)) lz ?_; simp only [Act.put, List.setIfInBounds_toArray, List.set_cons_zero, List.set_cons_succ])
      | go_big_quiet_step (first | (go_at_call 163; with_reducible exact Calls.later_of (HCC.out _))))
    refine wpQuiet_nil ?_
    rintro w4 ⟨⟨_, b4⟩, rfl⟩
    clear ld lz
    go_wp2
    go_ret
    refine ⟨rfl, ?_⟩
    rw [HG.out]
    exact B3.out.trans (b4.mono (by omega))
  · have he : ∀ w, (Op.equalIn 10000 67 (.agg (aggV k.bare.vals)) (.agg (aggV K5.zero.vals))).run Tryz.prog w = .ok false w := eq5_no (K5.bare_fits hk) K5.zero_fits hz
    have h0 : k.vol ≠ 0 := fun e => hz ((K5.vol_none hk).2 e)
    have ha : ans = (decide (mx ≤ k.vol) && partB k.errs k.vol p) := by
      rw [← hans, hp]; unfold K5.opens; rw [hV]
      congr 1
      rw [decide_eq_decide, ← hmx]
      constructor
      · intro h; split at h <;> split <;> omega
      · intro h; split at h <;> split <;> omega
    have HP := Lib.hid (fun v => atLeast_any k.errs k.vol p v heb.1 hvb.1 heb.2 hvb.2 hpb.1 hpb.2)
    clear hz hans h0
    generalize partB k.errs k.vol p = pb at *
    generalize k.vol = vo at *
    generalize k.errs = er at *
    generalize k.vals = kv at *
    generalize k.bare.vals = bv at *
    generalize K5.zero.vals = zv at *
    generalize f.vals = fv at *
    have HA := Lib.hid ha
    clear ha
    go_enter Tryz.func123, Tryz.ntmps123
    go_wp2_with (first
      | (refine wpList_box_agg rfl 67 _ rfl g hg kv rfl ?_; intro w1 h1 b1 s1)
      | (refine wpList_box_agg rfl 24 _ rfl (g + 1) s1 fv rfl ?_; intro w2 h2 b2 s2; have h1' := kb_below h1 (b2.mono (by omega)))
      | (refine wpList_alloc_agg rfl 67 rfl (g + 2) s2 zv (HAK.out _) ?_; intro w3 h3 b3 s3))
    have k1 := kb_below h1' (b3.mono (by omega))
    have k2 := kb_below h2 (b3.mono (by omega))
    have B3 := Lib.hid ((b1.trans (b2.mono (by omega : g ≤ g + 1))).trans (b3.mono (by omega : g ≤ g + 2)))
    clear h1 h2 h1' b1 b2 b3 s1 s2
    have ld : ∀ p : Later w3, (Instr.loadAt 67 (.pointer (some ⟨g, 0, none⟩))).run Tryz.prog p.v = .ok (.agg (aggV kv)) p.v := fun p => run_loadAt_agg _ _ _ _ _ (p.heap k1) undK rfl HSK.out
    have lz : ∀ p : Later w3, (Instr.loadAt 67 (.pointer (some ⟨g + 2, 0, none⟩))).run Tryz.prog p.v = .ok (.agg (aggV zv)) p.v := fun p => run_loadAt_agg _ _ _ _ _ (p.heap h3) undK rfl HSZ.out
    refine wp_region_later (by kernel_rfl) (by kernel_rfl) ?_
    repeat (first
      | (refine wpQuiet_load rfl 67 _ rfl g rfl (.agg (aggV kv)) ld ?_; simp only [Act.put, List.setIfInBounds_toArray, List.set_cons_zero, List.set_cons_succ])
      | (refine wpQuiet_load rfl 67 _ rfl (g + 2) rfl (.agg (aggV zv)) lz ?_; simp only [Act.put, List.setIfInBounds_toArray, List.set_cons_zero, List.set_cons_succ])
      | go_big_quiet_step (first | (go_at_call 163; with_reducible exact Calls.later_of (HCC.out _))))
    refine wpQuiet_nil ?_
    rintro w4 ⟨⟨_, b4⟩, rfl⟩
    have j1 := kb_below k1 b4
    have j2 := kb_below k2 b4
    have B4 := Lib.hid (B3.out.trans (b4.mono (by omega : g ≤ w3.heap.size)))
    clear ld lz k1 k2 h3 b4 s3 B3 he
    go_wp2_with (refine wpList_load_agg rfl 67 _ rfl g rfl kv j1 _ undK rfl HSK.out ?_)
    refine (HVV.out _).mono ?_
    rintro r w5 ⟨rfl, b5⟩
    have i1 := kb_below j1 b5
    have i2 := kb_below j2 b5
    have B5 := Lib.hid (B4.out.trans (b5.mono (by have := B4.out.size; omega : g ≤ _)))
    clear j1 j2 b5 B4
    obtain ⟨q8, q9⟩ := HLK.out _ _ _ i2
    have ld : ∀ p : Later w5, (Instr.loadAt 67 (.pointer (some ⟨g, 0, none⟩))).run Tryz.prog p.v = .ok (.agg (aggV kv)) p.v := fun p => run_loadAt_agg _ _ _ _ _ (p.heap i1) undK rfl HSK.out
    have v8 := fun p : Later w5 => p.cell q8
    have v9 := fun p : Later w5 => p.cell q9
    by_cases hle : mx ≤ vo
    · have hd : decide (mx ≤ vo) = true := decide_eq_true hle
      go_wp2
      refine wp_region_later (by kernel_rfl) (by kernel_rfl) ?_
      repeat (first
        | (refine wpQuiet_load rfl 67 _ rfl g rfl (.agg (aggV kv)) ld ?_; simp only [Act.put, List.setIfInBounds_toArray, List.set_cons_zero, List.set_cons_succ])
        | go_big_quiet_step (first | (go_at_call 165; with_reducible exact Calls.later_of (HEE.out _)) | (go_at_call 113; with_reducible exact Calls.later_is (HP.out _))))
      refine wpQuiet_nil ?_
      rintro w6 ⟨⟨_, b6⟩, rfl⟩
      go_wp2
      go_ret
      refine ⟨by rw [HA.out, hd]; rfl, ?_⟩
      rw [HG.out]
      exact B5.out.trans (b6.mono (by have := B5.out.size; omega))
    · have hd : decide (mx ≤ vo) = false := decide_eq_false hle
      go_wp2
      refine wp_region_later (by kernel_rfl) (by kernel_rfl) ?_
      repeat (first
        | (refine wpQuiet_load rfl 67 _ rfl g rfl (.agg (aggV kv)) ld ?_; simp only [Act.put, List.setIfInBounds_toArray, List.set_cons_zero, List.set_cons_succ])
        | go_big_quiet_step (first | (go_at_call 165; with_reducible exact Calls.later_of (HEE.out _)) | (go_at_call 113; with_reducible exact Calls.later_is (HP.out _))))
      refine wpQuiet_nil ?_
      rintro w6 ⟨⟨_, b6⟩, rfl⟩
      go_wp2
      go_ret
      refine ⟨by rw [HA.out, hd]; rfl, ?_⟩
      rw [HG.out]
      exact B5.out.trans (b6.mono (by have := B5.out.size; omega))
end Go.Proofs.YtgnccpmkdgfjeaaGreat

namespace Go.Proofs.YtgnccpmkdgfjeaaGreat
open Go.ChangeShapes Go.WideShapes Go.ChangeAt Go.RowKit

def subS (a b : Int) : Int := if b ≤ a then a - b else 0
theorem subS_bd {a b : Int} (ha' : a ≤ 18446744073709551615) (hb : 0 ≤ b) : 0 ≤ subS a b ∧ subS a b ≤ 18446744073709551615 := by unfold subS; split <;> omega

set_option maxHeartbeats 400000 in
theorem sub_any (a b : Int) (w : World) (ha : 0 ≤ a) (hb : 0 ≤ b) (ha' : a ≤ 18446744073709551615) (hb' : b ≤ 18446744073709551615) :
    Calls Tryz.prog 68 #[.int .u64 a, .int .u64 b] w fun e w' => e = .returned (.int .u64 (subS a b)) ∧ w = w' := by
  go_enter Tryz.func68, Tryz.ntmps68
  go_wp2
  all_goals go_ret
  · exact ⟨ret_int (by unfold subS; rw [if_neg (by omega)]), rfl⟩
  · exact ⟨ret_int (by unfold subS; rw [if_pos (by omega)]), rfl⟩

set_option maxHeartbeats 400000 in
theorem rsub_any (a b : Int) (w : World) (ha : 0 ≤ a) (hb : 0 ≤ b) (ha' : a ≤ 18446744073709551615) (hb' : b ≤ 18446744073709551615) :
    Calls Tryz.prog 101 #[.int .u64 a, .int .u64 b] w fun e w' => e = .returned (.int .u64 (subS a b)) ∧ w = w' := by
  go_enter Tryz.func101, Tryz.ntmps101
  go_wp2
  all_goals go_ret
  · exact ⟨ret_int (by unfold subS; rw [if_neg (by omega)]), rfl⟩
  · exact ⟨ret_int (by unfold subS; rw [if_pos (by omega)]), rfl⟩
end Go.Proofs.YtgnccpmkdgfjeaaGreat

namespace Go.Proofs.YtgnccpmkdgfjeaaGreat
set_option linter.unusedVariables false

/-- A call: its batch, how far it is. -/
structure CL where
  zs : List Int
  ms : List P2
  k : CN
def CL.id (x : CL) : Int := leadL x.ms
def CL.at_ (x : CL) (k : CN) : CL := ⟨x.zs, x.ms, k⟩
theorem CL.id_at (x : CL) (k : CN) : (x.at_ k).id = x.id := rfl
/-- What is to be done to a timer. -/
structure DA where
  set : Bool
  id : Int
  due : Int
/-- A dependency. -/
structure DS where
  brk : BK
  bul : BU
  wt : Nat
  wF : Cnt
  ht : Nat
  hF : Cnt
  fb : List Hol
  cs : List CL
  pr : Int
/-- What it becomes, and what is told. -/
structure DR where
  S : DS
  acts : List DA
  outs : List Ot
  er : Int

def without (cs : List CL) (id : Int) : List CL := cs.filter (fun x => !(x.id == id))
def Cnf.W (c : Cnf) : Nat := c.width.toNat
def Cnf.B (c : Cnf) : Nat := c.buckets.toNat

namespace CN
/-- A call falls until there is a permit for its step: how far it is, and whether it falls back. -/
def goL (z ch : Int) (can : Int → Bool) : Nat → CN → Bool → CN × Bool
  | 0, k, m => (k, m)
  | n + 1, k, m => if m && !can k.sp then goL z ch can n (k.fail z ch) (k.fails ch) else (k, m)
def falls (z ch : Int) (can : Int → Bool) (k : CN) : CN × Bool := goL z ch can 8 (k.fail z ch) (k.fails ch)
theorem goL_stop {z ch : Int} {can : Int → Bool} {k : CN} {m : Bool} (h : (m && !can k.sp) = false) : ∀ n, goL z ch can n k m = (k, m)
  | 0 => rfl
  | n + 1 => by rw [goL, h]; rfl
theorem goL_step {z ch : Int} {can : Int → Bool} {k : CN} {m : Bool} (h : (m && !can k.sp) = true) (n : Nat) : goL z ch can (n + 1) k m = goL z ch can n (k.fail z ch) (k.fails ch) := by rw [goL, h]; rfl
theorem fails_sp {k : CN} {z ch : Int} (h : k.fails ch = true) : (k.fail z ch).sp = k.sp + 1 ∧ (k.fail z ch).st = 3 ∧ k.sp < ch := by
  unfold fails at h
  have h := of_decide_eq_true h
  unfold fail
  rw [if_pos h.1, if_pos h.2]
  exact ⟨rfl, rfl, h.2⟩
end CN

namespace DS
variable (c : Cnf)
def none_ (most que : Nat) : DS := ⟨BK.ofC c, ⟨most, que, [], []⟩, 0, fun _ _ => 0, 0, fun _ _ => 0, [], [], 0⟩
def find (S : DS) (id : Int) : Option CL := S.cs.find? (fun x => x.id == id)
def knows (S : DS) (id : Int) : Bool := (S.find id).isSome
def put (S : DS) (x : CL) : DS := { S with cs := without S.cs x.id ++ [x] }
def del (S : DS) (id : Int) : DS := { S with cs := without S.cs id }
def holds (S : DS) (id : Int) : Bool := decide (id ∈ S.bul.run) || S.fb.any (fun h => h.1 == id)
def gone (S : DS) (x : CL) : Bool := decide (x.k.st = 4) && !S.holds x.id
def keep (S : DS) (x : CL) : DS := if S.gone x then S.del x.id else S.put x
/-- The window's time. -/
def wgo (S : DS) (now : Nat) : Nat := max (now / c.W) S.wt
def hgo (S : DS) (now : Nat) : Nat := max (now / c.W) S.ht
def addW (S : DS) (now k : Nat) : DS := { S with wt := S.wgo c now, wF := upd S.wF (S.wgo c now) k (addS (S.wF (S.wgo c now) k) 1) }
def seeW (S : DS) (now : Nat) : DS := { S with wt := S.wgo c now }
def seeH (S : DS) (now : Nat) : DS := { S with ht := S.hgo c now }
def addH (S : DS) (now : Nat) (took : Int) : DS := { S with ht := S.hgo c now, hF := upd S.hF (S.hgo c now) (lenS took).toNat (addS (S.hF (S.hgo c now) (lenS took).toNat) 1) }
def cntOf (S : DS) : K5 := ⟨satS (tot S.wF S.wt 0 c.B), satS (tot S.wF S.wt 1 c.B), satS (tot S.wF S.wt 2 c.B), satS (tot S.wF S.wt 3 c.B), satS (tot S.wF S.wt 4 c.B)⟩
def opens (S : DS) : Bool := (S.cntOf c).opens c.volume c.percent
def tripB (S : DS) (now : Int) : DS := { S with brk := S.brk.trip now }
def doneB (S : DS) (now : Int) (ok : Bool) : DS := { S with brk := S.brk.done now ok }
def backB (S : DS) : DS := { S with brk := S.brk.back }
def askB (S : DS) (now : Int) : DS := { S with brk := S.brk.ask now }
def pr_ (S : DS) (id : Int) : DS := { S with pr := id }
def clear (S : DS) : DS := { S with wF := fun _ _ => 0 }
/-- A call is counted as something. -/
def count (S : DS) (now : Nat) (id : Int) (k : Nat) : DS :=
  let T := S.addW c now k
  if T.pr = id then (if k = 0 then (((T.pr_ 0).doneB now true).clear) else ((T.pr_ 0).doneB now false))
  else if T.opens c then T.tripB now else T
def bulB (S : DS) (b : BU) : DS := { S with bul := b }
def fbB (S : DS) (l : List Hol) : DS := { S with fb := l }
def can (S : DS) (id st : Int) : Bool := decide (S.fb.length < c.fbMax.toNat) && !decide ((id, st) ∈ S.fb)
def fallsTo (S : DS) (x : CL) (z : Int) : CN × Bool := x.k.falls z c.chain (S.can c x.id)
def fall (S : DS) (now : Nat) (x : CL) (z : Int) : DR :=
  let r := S.fallsTo c x z
  if r.2 then ⟨(S.fbB (insH (x.id, r.1.sp) S.fb)).keep (x.at_ r.1), [⟨true, x.id, addS now c.fbTimeout⟩], [], 0⟩
  else ⟨S.keep (x.at_ r.1), [], outsL x.zs x.ms r.1 4 [] now, 0⟩
def run1 (S : DS) (id : Int) : DS := match S.find id with
  | some x => S.put (x.at_ x.k.run)
  | none => S
def runL (S : DS) : List Int → DS
  | [] => S
  | id :: l => (S.run1 id).runL l
/-- Which is the probe behind what was told. -/
def prob (S : DS) (told id : Int) : DS := if told = 2 then S.pr_ id else S
def refused (S : DS) (now : Nat) (x : CL) : DR := ((if S.pr = x.id then (S.backB).pr_ 0 else S).count c now x.id 3).fall c now x 3
def enter (S : DS) (now : Nat) (x : CL) : DR :=
  if S.brk.asked now = 3 then ((S.askB now).addW c now 4).fall c now x 4
  else
    let T := (S.askB now).prob (S.brk.asked now) x.id
    let U := T.bulB (T.bul.adm x.id)
    if T.bul.tells x.id = 3 then U.refused c now x
    else ⟨((if T.bul.tells x.id = 1 then (U.put x).run1 x.id else U.put x)).runL (T.bul.lets x.id), [⟨true, x.id, addS now c.timeout⟩], [], 0⟩
def offer (S : DS) (now : Nat) (zs : List Int) (ms : List P2) : DR :=
  if leadL ms < 1 then ⟨S, [], [], 1⟩
  else if S.knows (leadL ms) then ⟨S, [], [], 4⟩
  else S.enter c now ⟨zs, ms, CN.new now⟩
def pick (S : DS) : DR :=
  if S.bul.picked then ⟨(S.bulB S.bul.pick).run1 S.bul.first, [], [], 0⟩
  else ⟨S, [], [], 3⟩
/-- Told behind what is done to its timer. -/
def _root_.Go.Proofs.YtgnccpmkdgfjeaaGreat.DR.after (r : DR) (l : List DA) : DR := ⟨r.S, l ++ r.acts, r.outs, r.er⟩
def ended (S : DS) (now : Nat) (x : CL) (kind : Int) (vs : List Int) : DR := ⟨S.keep (x.at_ x.k.fin), [], outsL x.zs x.ms x.k.fin kind vs now, 0⟩
def answer (S : DS) (now : Nat) (id : Int) (ok : Bool) (vs : List Int) : DR :=
  if id ∈ S.bul.run then
    let T := S.bulB (S.bul.free id)
    match S.find id with
    | none => ⟨T, [], [], 0⟩
    | some x =>
      if x.k.st = 2 then
        (if (ok && decide (vs.length = x.zs.length)) = true then (((T.count c now id 0).addH c now (subS now x.k.tm)).ended now x 1 vs).after [⟨false, id, 0⟩]
         else ((T.count c now id 1).fall c now x 1).after [⟨false, id, 0⟩])
      else ⟨T.keep x, [], [], 0⟩
  else ⟨S, [], [], 3⟩
def fallback (S : DS) (now : Nat) (id st : Int) (ok : Bool) (vs : List Int) : DR :=
  if (id, st) ∈ S.fb then
    let T := S.fbB (outH (id, st) S.fb)
    match S.find id with
    | none => ⟨T, [], [], 0⟩
    | some x =>
      if x.k.st = 3 ∧ x.k.sp = st then
        (if (ok && decide (vs.length = x.zs.length)) = true then (T.ended now x 3 vs).after [⟨false, id, 0⟩]
         else (T.fall c now x x.k.ca).after [⟨false, id, 0⟩])
      else ⟨T.keep x, [], [], 0⟩
  else ⟨S, [], [], 3⟩
def late (S : DS) (now : Nat) (id : Int) : DR := match S.find id with
  | none => ⟨S, [], [], 0⟩
  | some x =>
    if x.k.st = 1 then ((S.bulB (S.bul.drop id)).count c now id 2).fall c now x 2
    else if x.k.st = 2 then (S.count c now id 2).fall c now x 2
    else if x.k.st = 3 then S.fall c now x 2
    else ⟨S, [], [], 0⟩
/-- What is looked at turns the times alone. -/
def look (S : DS) (now : Nat) : DS := (S.seeW c now).seeH c now
end DS
/-- How a dependency stands. -/
structure SN where
  busy : Int
  waiting : Int
  falls : Int
  calls : Int
  state : Int
  cnt : K5
  half : Int
  all : Int
namespace DS
variable (c : Cnf)
def histL (S : DS) : List Int := allL S.hF S.ht c.B
def snap (S : DS) : SN := ⟨S.bul.run.length, S.bul.wait.length, S.fb.length, S.cs.length, S.brk.state, S.cntOf c, pctX (S.histL c) 50, pctX (S.histL c) 100⟩
end DS
end Go.Proofs.YtgnccpmkdgfjeaaGreat

namespace Go.Proofs.YtgnccpmkdgfjeaaGreat
set_option linter.unusedVariables false
open Go.ChangeShapes Go.WideShapes Go.ChangeAt Go.RowKit Go.Deep

theorem laid_out_k : laidOutB Tryz.prog = true := by kernel_rfl
section
variable {P : Program}
theorem flat_fields' {g : TypeId → Option (List CK)} {C : TypeId → List Value → Prop} (hg : ∀ t ks cs, g t = some ks → C t cs → Flat ks cs) :
    ∀ (fs : List Field) (off : Nat) (ks : List CK) (cs : List Value), fieldKinds P g fs off = some ks → cs.length = off + ks.length →
      (∀ fd ∈ fs, C fd.type ((cs.drop fd.offset).take (P.cellsOf fd.type))) → Flat ks (cs.drop off)
  | [], off, ks, cs, h, hl, _ => by
    simp only [fieldKinds, Option.some.injEq] at h
    subst h
    rw [List.drop_of_length_le (by simp at hl; omega)]
    trivial
  | fd :: fs, off, ks, cs, h, hl, hx => by
    simp only [fieldKinds, Option.bind_eq_some_iff] at h
    obtain ⟨l, h1, h⟩ := h
    split at h
    · rename_i hc
      simp only [Option.map_eq_some_iff] at h
      obtain ⟨l', h2, rfl⟩ := h
      have f1 := hg _ _ _ h1 (hx fd (by simp))
      rw [hc.1, hc.2] at f1
      have f2 := flat_fields' hg fs (off + l.length) l' cs h2 (by simp at hl; omega) (fun fd' hm => hx fd' (by simp [hm]))
      have e : cs.drop off = (cs.drop off).take l.length ++ cs.drop (off + l.length) := by
        rw [← List.drop_drop, List.take_append_drop]
      rw [e]
      exact f1.append f2
    · cases h
theorem mapM_at {α β : Type} {f : α → Option β} : ∀ {l : List α} {r : List β}, l.mapM f = some r → ∀ a ∈ l, ∃ b, f a = some b
  | [], _, _, a, ha => by simp at ha
  | x :: l, r, h, a, ha => by
    rw [List.mapM_cons] at h
    simp only [bind, Option.bind_eq_some_iff] at h
    obtain ⟨b, hb, h⟩ := h
    obtain ⟨bs, hbs, _⟩ := h
    rcases List.mem_cons.1 ha with rfl | ha
    · exact ⟨b, hb⟩
    · exact mapM_at hbs a ha
theorem flat_of_lits : ∀ (f : Nat) (t : TypeId) (ks : List CK) (d : Nat) (cs : List Value) (ls : List Lit), kindsOf P f t = some ks → P.keyLits d t cs = some ls → Flat ks cs
  | 0, _, _, _, _, _, h, _ => by simp [kindsOf] at h
  | _ + 1, _, _, 0, _, _, _, hx => by simp [Program.keyLits] at hx
  | f + 1, t, ks, d + 1, cs, ls, h, hx => by
    unfold kindsOf at h
    unfold Program.keyLits at hx
    split at h
    · rename_i ht
      rw [ht] at hx
      cases h
      split at hx <;> simp_all
      exact ⟨⟨_, rfl⟩, trivial⟩
    · rename_i k ht
      rw [ht] at hx
      cases h
      split at hx <;> simp_all
      obtain ⟨⟨rfl, hw⟩, _⟩ := hx
      exact ⟨⟨_, rfl, hw⟩, trivial⟩
    · rename_i ht
      rw [ht] at hx
      cases h
      split at hx <;> simp_all
      obtain ⟨hw, _⟩ := hx
      exact ⟨⟨_, rfl, hw⟩, trivial⟩
    · rename_i fs ht
      rw [ht] at hx
      simp only [Option.bind_eq_some_iff] at h
      obtain ⟨l, h1, h⟩ := h
      split at h
      · rename_i hc
        cases h
        simp only at hx
        split at hx
        · rename_i hl
          simp only [Option.map_eq_some_iff] at hx
          obtain ⟨Ls, hLs, _⟩ := hx
          have := flat_fields' (P := P) (g := kindsOf P f) (C := fun t us => ∃ ls, P.keyLits d t us = some ls) (fun t ks us a ⟨ls, b⟩ => flat_of_lits f t ks d us ls a b) fs.toList 0 ks cs h1 (by rw [hl.1, hc]; omega) (fun fd hm => mapM_at hLs fd hm)
          simpa using this
        · cases hx
      · cases h
    · rename_i n e ht
      rw [ht] at hx
      simp only [Option.bind_eq_some_iff] at h
      obtain ⟨l, h1, h⟩ := h
      split at h
      · rename_i hc
        cases h
        simp only at hx
        split at hx
        · rename_i hl
          simp only [Option.map_eq_some_iff] at hx
          obtain ⟨Ls, hLs, _⟩ := hx
          refine flat_items n cs (by omega) fun i hi => ?_
          obtain ⟨b, hb⟩ := mapM_at hLs i (by simpa using hi)
          rw [hc.1] at hb
          exact flat_of_lits f e l d _ b h1 hb
        · cases hx
      · cases h
    · cases h

/-- The key that a plain struct or array reads as. -/
theorem key_flat {t : TypeId} {ks : List CK} {cs : Array Value} (hk : kindsOf P (P.types.size + 1) t = some ks) (ht : P.keyTypeAt (P.types.size + 1) t = true) (hc : P.cellsOf t = ks.length)
    (hagg : (match P.underlying t with | some (.struct _) | some (.array _ _) => true | _ => false) = true) (hx : Flat ks cs.toList) : keyOf P t (.agg cs) = some (.string (keyBytes (cs.toList.map vlit))) := by
  have hl := lits_flat (P := P) (P.types.size + 1) t ks cs.toList hk ht hx
  have fm : Value.formed P t (.agg cs) = true := by
    have := hx.length
    simp only [Array.length_toList] at this
    unfold Value.formed
    split at hagg <;> simp_all
  unfold keyOf
  split
  · simp only [Program.keyType, ht, fm, Bool.and_self, if_true]
    show (P.keyLits (P.types.size + 1) t cs.toList).map _ = _
    rw [hl]
    rfl
  · simp only [Program.keyType, ht, fm, Bool.and_self, if_true]
    show (P.keyLits (P.types.size + 1) t cs.toList).map _ = _
    rw [hl]
    rfl
  · split at hagg <;> simp_all
/-- What reads as a key of such a type is plain data of it. -/
theorem key_flat_inv {t : TypeId} {ks : List CK} {v : Value} {kl : Lit} (f : Nat) (hk : kindsOf P f t = some ks)
    (hagg : (match P.underlying t with | some (.struct _) | some (.array _ _) => true | _ => false) = true) (h : keyOf P t v = some kl) : ∃ cs : Array Value, v = .agg cs ∧ Flat ks cs.toList := by
  have go : (if P.keyType t && v.formed P t then (P.keyLits (P.types.size + 1) t v.cells.toList).map fun ls => Lit.string (keyBytes ls) else none) = some kl := by
    unfold keyOf at h
    split at hagg <;> simp_all
  split at go
  · rename_i hc
    simp only [Bool.and_eq_true] at hc
    simp only [Option.map_eq_some_iff] at go
    obtain ⟨ls, h1, _⟩ := go
    have fm := hc.2
    unfold Value.formed at fm
    cases v with
    | agg cs => exact ⟨cs, rfl, flat_of_lits f t ks _ _ _ hk h1⟩
    | _ => split at hagg <;> simp_all
  · cases go
/-- A map's bound can be lowered to its size. -/
theorem lower_map {H : Type} {k : TypeId} {R : Value → Option (DataW H × List MemPlace)} {w : World} {m n : Nat} {D : DataW H} (h : w.ownsMap P k R m n D) : w.ownsMap P k R m (Maps.size D) D := by
  obtain ⟨es, clock, hb, F, hs, rfl⟩ := h
  exact ⟨es, clock, hb, F, by simp [Maps.size, length_sorted], rfl⟩
theorem ownsMap_keep {H : Type} {k : TypeId} {R : Value → Option (DataW H × List MemPlace)} {w w' : World} {m n : Nat} {D : DataW H} (h : w.ownsMap P k R m n D) (hk : w'.heap[m]? = w.heap[m]?) : w'.ownsMap P k R m n D := by
  obtain ⟨es, clock, hb, hr⟩ := h
  exact ⟨es, clock, hk.trans hb, hr⟩
end
end Go.Proofs.YtgnccpmkdgfjeaaGreat

namespace Go.Proofs.YtgnccpmkdgfjeaaGreat
set_option linter.unusedVariables false
open Go.ChangeShapes Go.WideShapes Go.ChangeAt Go.RowKit

/-- How an element reads: as itself. -/
def hold (v : Value) : Option (DataW Value × List MemPlace) := some (.held v, [])
/-- Keys of one type, as Lean values. -/
structure KeyT (κ : Type) where
  kt : TypeId
  ok : κ → Prop
  val : κ → Value
  lit : κ → Lit
  keyed : Maps.Keyed Tryz.prog kt
  key : ∀ x, ok x → keyOf Tryz.prog kt (val x) = some (lit x)
  inv : ∀ v l, keyOf Tryz.prog kt v = some l → ∃ x, v = val x ∧ ok x ∧ l = lit x
  inj : ∀ x y, val x = val y → x = y
section
variable {κ : Type} {K : KeyT κ} {w w' : World} {m n r cnt : Nat} {f f' : κ → Option Value} {left left' : κ → Bool}
theorem KeyT.lit_inj {x y : κ} (hx : K.ok x) (hy : K.ok y) (h : K.lit x = K.lit y) : x = y := K.inj _ _ (K.keyed.inj (K.key x hx) (h ▸ K.key y hy))
theorem KeyT.isKey {x : κ} (hx : K.ok x) : WideAt.IsKeyLit (K.lit x) := K.keyed.key (K.key x hx)
theorem KeyT.same [DecidableEq κ] {x y : κ} (hx : K.ok x) (hy : K.ok y) : (K.lit x).sameKey (K.lit y) = decide (x = y) := by
  by_cases h : x = y
  · subst h
    rw [WideAt.sameKey_self (K.isKey hx)]
    simp
  · rw [Maps.sameKey_ne (fun e => h (K.lit_inj hx hy e))]
    simp [h]
/-- What a datum tells of each key. -/
def Reads (K : KeyT κ) (D : DataW Value) (f : κ → Option Value) : Prop := ∀ x, K.ok x → Maps.has D (K.lit x) = (f x).isSome ∧ ∀ z, D.atKey (K.lit x) z = ((f x).map DataW.held).getD z
/-- A map in block m, of n keys: f tells what stands at each. -/
def MapV (K : KeyT κ) (w : World) (m n : Nat) (f : κ → Option Value) : Prop := ∃ D : DataW Value, w.ownsMap Tryz.prog K.kt hold m n D ∧ Maps.size D = n ∧ Reads K D f
/-- The same, ranged over by what stands in block r: left tells what is still to come. -/
def RanV (K : KeyT κ) (w : World) (m r n : Nat) (f : κ → Option Value) (left : κ → Bool) (cnt : Nat) : Prop :=
  ∃ (D : DataW Value) (L : Lit → Bool) (N : Nat), w.ranges Tryz.prog K.kt hold m r N D L cnt ∧ Maps.size D = n ∧ Reads K D f ∧ ∀ x, K.ok x → L (K.lit x) = left x
theorem MapV.lt (h : MapV K w m n f) : m < w.heap.size := by obtain ⟨D, h, _⟩ := h; exact h.lt
theorem MapV.keep (h : MapV K w m n f) (hk : w'.heap[m]? = w.heap[m]?) : MapV K w' m n f := by
  obtain ⟨D, h1, h2⟩ := h
  exact ⟨D, ownsMap_keep h1 hk, h2⟩
theorem MapV.obj (h : MapV K w m n f) : ∃ es clock, w.heap[m]? = some (.map es clock) := by
  obtain ⟨D, ⟨es, clock, hb, hr⟩, h2⟩ := h
  exact ⟨es, clock, hb⟩
theorem MapV.ne_cells (h : MapV K w m n f) {j : Nat} {cs : Array Value} {t : TypeId} {z : Nat × Nat} (hj : w.heap[j]? = some (.cells cs t z)) : j ≠ m := by
  obtain ⟨es, c, hm⟩ := h.obj
  rintro rfl
  rw [hm] at hj
  cases hj
theorem Reads.congr {D : DataW Value} (h : Reads K D f) (e : ∀ x, K.ok x → f x = f' x) : Reads K D f' := fun x hx => by rw [← e x hx]; exact h x hx
theorem MapV.congr (h : MapV K w m n f) (e : ∀ x, K.ok x → f x = f' x) : MapV K w m n f' := by
  obtain ⟨D, h1, h2, h3⟩ := h
  exact ⟨D, h1, h2, h3.congr e⟩
theorem mapV_new (K : KeyT κ) (w : World) : MapV K (w.alloc (.map #[] 0)) w.heap.size 0 (fun _ => none) := ⟨.map [], World.ownsMap_made w _ _ _, rfl, fun x _ => ⟨rfl, fun z => rfl⟩⟩
set_option maxRecDepth 100000 in
/-- A look-up. -/
theorem MapV.look (h : MapV K w m n f) {x : κ} (hx : K.ok x) {mt et : TypeId} (ht : Tryz.prog.underlying mt = some (.map K.kt et)) {z : Value} (hz : ∀ w, (zeroValue et).run Tryz.prog w = .ok z w) (hw : w'.heap[m]? = w.heap[m]?) :
    (Instr.lookup mt (.map (some m)) (K.val x) false).run Tryz.prog w' = .ok ((f x).getD z) w' := by
  obtain ⟨D, h1, _, h3⟩ := h.keep hw
  obtain ⟨v, ps, hr, hv⟩ := h1.lookup K.keyed ht (hz _) (zd := .held z) (zp := []) rfl (K.key x hx)
  rw [hr]
  rw [(h3 x hx).2] at hv
  unfold hold at hv
  cases hf : f x with
  | none => rw [hf] at hv; simp at hv; simp [hv.1]
  | some y => rw [hf] at hv; simp at hv; simp [hv.1]
set_option maxRecDepth 100000 in
/-- A look-up that tells whether there is one. -/
theorem MapV.look2 (h : MapV K w m n f) {x : κ} (hx : K.ok x) {mt et : TypeId} (ht : Tryz.prog.underlying mt = some (.map K.kt et)) {z : Value} (hz : ∀ w, (zeroValue et).run Tryz.prog w = .ok z w) (hw : w'.heap[m]? = w.heap[m]?) :
    (Instr.lookup mt (.map (some m)) (K.val x) true).run Tryz.prog w' = .ok (.tuple #[(f x).getD z, .bool (f x).isSome]) w' := by
  obtain ⟨D, h1, _, h3⟩ := h.keep hw
  obtain ⟨v, ps, hr, hv⟩ := h1.look_ok K.keyed ht (hz _) (zd := .held z) (zp := []) rfl (K.key x hx)
  rw [hr, (h3 x hx).1]
  rw [(h3 x hx).2] at hv
  unfold hold at hv
  cases hf : f x with
  | none => rw [hf] at hv; simp at hv; simp [hv.1]
  | some y => rw [hf] at hv; simp at hv; simp [hv.1]
theorem MapV.len (h : MapV K w m n f) {mt et : TypeId} (ht : Tryz.prog.underlying mt = some (.map K.kt et)) (ty : TypeId) : (Builtin.len_ #[mt] ty #[.map (some m)]).run Tryz.prog w = .ok (.int .i64 n) w := by
  obtain ⟨D, h1, h2, _⟩ := h
  rw [h1.len ht, h2]
theorem Reads.put [DecidableEq κ] {D : DataW Value} (h : Reads K D f) (hD : Maps.IsMap D) {x : κ} (hx : K.ok x) (v : Value) : Reads K (D.put (K.lit x) (.held v)) (fun y => if y = x then some v else f y) := fun y hy => by
  by_cases hc : y = x
  · subst hc
    rw [Maps.has_put_same hD (K.isKey hx)]
    refine ⟨by simp, fun z => ?_⟩
    rw [Maps.atKey_put_same hD (K.isKey hx)]
    simp
  · have hne : K.lit y ≠ K.lit x := fun e => hc (K.lit_inj hy hx e)
    rw [Maps.has_put_other hne]
    simp only [if_neg hc]
    exact ⟨(h y hy).1, fun z => by rw [Maps.atKey_put_other hne]; exact (h y hy).2 z⟩
theorem Reads.del [DecidableEq κ] {D : DataW Value} (h : Reads K D f) {x : κ} (hx : K.ok x) : Reads K (D.del (K.lit x)) (fun y => if y = x then none else f y) := fun y hy => by
  by_cases hc : y = x
  · subst hc
    rw [Maps.has_del_same]
    refine ⟨by simp, fun z => ?_⟩
    rw [Maps.atKey_del_same]
    simp
  · have hne : K.lit y ≠ K.lit x := fun e => hc (K.lit_inj hy hx e)
    rw [Maps.has_del_other hne]
    simp only [if_neg hc]
    exact ⟨(h y hy).1, fun z => by rw [Maps.atKey_del_other hne]; exact (h y hy).2 z⟩
set_option maxRecDepth 100000 in
theorem MapV.store [DecidableEq κ] (h : MapV K w m n f) {x : κ} (hx : K.ok x) {mt et : TypeId} (ht : Tryz.prog.underlying mt = some (.map K.kt et)) (hn : n < maxLen) (v : Value) :
    ∃ w', (Instr.mapUpdate mt (.map (some m)) (K.val x) v).run Tryz.prog w = .ok () w' ∧ MapV K w' m (if (f x).isSome then n else n + 1) (fun y => if y = x then some v else f y) ∧ w.mapTurned w' m := by
  obtain ⟨D, h1, h2, h3⟩ := h
  obtain ⟨w', hr, ho, htu⟩ := h1.store K.keyed ht hn (K.key x hx) (val := v) (d := .held v) (ps := []) rfl
  have hD := h1.tidy K.keyed
  have hsz : Maps.size (D.put (K.lit x) (.held v)) = (if (f x).isSome then n else n + 1) := by rw [Maps.size_put hD, (h3 x hx).1, h2]
  exact ⟨w', hr, ⟨_, hsz ▸ lower_map ho, hsz, h3.put hD.isMap hx v⟩, htu⟩
set_option maxRecDepth 100000 in
theorem MapV.drop [DecidableEq κ] (h : MapV K w m n f) {x : κ} (hx : K.ok x) {mt et : TypeId} (ht : Tryz.prog.underlying mt = some (.map K.kt et)) (ty : TypeId) :
    ∃ w', (Builtin.delete_ #[mt, K.kt] ty #[.map (some m), K.val x]).run Tryz.prog w = .ok (.tuple #[]) w' ∧ MapV K w' m (if (f x).isSome then n - 1 else n) (fun y => if y = x then none else f y) ∧ w.mapTurned w' m := by
  obtain ⟨D, h1, h2, h3⟩ := h
  obtain ⟨w', hr, ho, htu⟩ := h1.drop K.keyed ht (K.key x hx) ty
  have hD := h1.tidy K.keyed
  have hsz : Maps.size (D.del (K.lit x)) = (if (f x).isSome then n - 1 else n) := by
    have h5 := Maps.size_del (k := K.lit x) hD
    rw [(h3 x hx).1, h2] at h5
    split at h5 <;> rename_i hc <;> simp [hc] <;> omega
  exact ⟨w', hr, ⟨_, hsz ▸ lower_map ho, hsz, h3.del hx⟩, htu⟩

/-! ### 'range' -/
theorem RanV.map (h : RanV K w m r n f left cnt) : MapV K w m n f := by
  obtain ⟨D, L, N, h1, h2, h3, h4⟩ := h
  exact ⟨D, h2 ▸ lower_map h1.owns, h2, h3⟩
theorem RanV.iter (h : RanV K w m r n f left cnt) : ∃ a s b c, w.heap[r]? = some (.mapIter a s b c) := by
  obtain ⟨D, L, N, ⟨es, clock, since, seen, c0, hb, _, _, _, hr, _⟩, _⟩ := h
  exact ⟨_, _, _, _, hr⟩
theorem RanV.ne_cells (h : RanV K w m r n f left cnt) {j : Nat} {cs : Array Value} {t : TypeId} {z : Nat × Nat} (hj : w.heap[j]? = some (.cells cs t z)) : j ≠ m ∧ j ≠ r := by
  refine ⟨h.map.ne_cells hj, ?_⟩
  obtain ⟨_, _, _, _, hm⟩ := h.iter
  rintro rfl
  rw [hm] at hj
  cases hj
theorem RanV.keep (h : RanV K w m r n f left cnt) (hm : w'.heap[m]? = w.heap[m]?) (hr : w'.heap[r]? = w.heap[r]?) : RanV K w' m r n f left cnt := by
  obtain ⟨D, L, N, ⟨es, clock, since, seen, c0, hb, F, hs, hD, hi, rest⟩, h2⟩ := h
  exact ⟨D, L, N, ⟨es, clock, since, seen, c0, hm.trans hb, F, hs, hD, hr.trans hi, rest⟩, h2⟩
theorem RanV.congr (h : RanV K w m r n f left cnt) (e : ∀ x, K.ok x → f x = f' x) (e' : ∀ x, K.ok x → left x = left' x) : RanV K w m r n f' left' cnt := by
  obtain ⟨D, L, N, h1, h2, h3, h4⟩ := h
  exact ⟨D, L, N, h1, h2, h3.congr e, fun x hx => by rw [h4 x hx, e' x hx]⟩
theorem RanV.drop [DecidableEq κ] (h : RanV K w m r n f left cnt) {x : κ} (hx : K.ok x) {mt et : TypeId} (ht : Tryz.prog.underlying mt = some (.map K.kt et)) (ty : TypeId) :
    ∃ w' cnt', (Builtin.delete_ #[mt, K.kt] ty #[.map (some m), K.val x]).run Tryz.prog w = .ok (.tuple #[]) w' ∧ RanV K w' m r (if (f x).isSome then n - 1 else n) (fun y => if y = x then none else f y) (fun y => left y && !decide (y = x)) cnt' ∧ cnt' ≤ cnt ∧ w.mapTurned w' m := by
  obtain ⟨D, L, N, h1, h2, h3, h4⟩ := h
  obtain ⟨w', cnt', hr, ho, hle, htu⟩ := h1.drop K.keyed ht (K.key x hx) ty
  have hD := h1.owns.tidy K.keyed
  have hsz : Maps.size (D.del (K.lit x)) = (if (f x).isSome then n - 1 else n) := by
    have h5 := Maps.size_del (k := K.lit x) hD
    rw [(h3 x hx).1, h2] at h5
    split at h5 <;> rename_i hc <;> simp [hc] <;> omega
  exact ⟨w', cnt', hr, ⟨_, _, N, ho, hsz, h3.del hx, fun y hy => by rw [h4 y hy, KeyT.same hy hx]⟩, hle, htu⟩
end
section
variable {κ : Type} {K : KeyT κ} {w : World} {m n r cnt : Nat} {f : κ → Option Value} {left : κ → Bool} {ops : Array Oper} {rest : List Oper} {o : Oper} {a : Act} {Q : Exit → Act → World → Prop}
set_option maxRecDepth 100000 in
theorem wpList_rangeV (hg : o.guard = none) (s : Operand) (mt et : TypeId) (hop : o.op = Op.range mt s) (ht : Tryz.prog.underlying mt = some (.map K.kt et)) (hs : a.eval s = .map (some m)) (h : MapV K w m n f)
    (hK : ∀ w', RanV K w' m w.heap.size n f (fun x => (f x).isSome) n → Below w.heap.size w w' → w'.heap.size = w.heap.size + 1 → wpList Tryz.prog ops Q rest (a.put o.dst (.pointer (some ⟨w.heap.size, 0, none⟩))) w') : wpList Tryz.prog ops Q (o :: rest) a w := by
  obtain ⟨D, h1, h2, h3⟩ := h
  refine wpList_range_own w hg s mt hop K.kt et K.keyed ht hold m n D hs h1 fun w' r1 r2 r3 => ?_
  rw [h2] at r1
  exact hK w' ⟨D, Maps.has D, n, r1, h2, h3, fun x hx => (h3 x hx).1⟩ ⟨r2.os, r2.tape, r2.output, r2.size, fun j hj => r2.block j hj (by simp)⟩ r3
set_option maxRecDepth 100000 in
theorem wpList_nextV [DecidableEq κ] (hg : o.guard = none) (it : Operand) (hop : o.op = Op.next it false) (hit : a.eval it = .pointer (some ⟨r, 0, none⟩)) (h : RanV K w m r n f left cnt)
    (hDone : (∀ x, K.ok x → left x = false) → wpList Tryz.prog ops Q rest (a.put o.dst (.tuple #[.bool false])) w)
    (hMore : ∀ (x : κ) (v : Value) (w' : World) (cnt' : Nat), K.ok x → left x = true → f x = some v → RanV K w' m r n f (fun y => left y && !decide (y = x)) cnt' → cnt' < cnt → Frm (· = r) w w' → w'.heap.size = w.heap.size →
      (Instr.entry (.pointer (some ⟨r, 0, none⟩))).run Tryz.prog w' = .ok (.tuple #[K.val x, v]) w' → wpList Tryz.prog ops Q rest (a.put o.dst (.tuple #[.bool true, K.val x, v])) w') : wpList Tryz.prog ops Q (o :: rest) a w := by
  obtain ⟨D, L, N, h1, h2, h3, h4⟩ := h
  refine wpList_next_ranges w hg it hop K.kt K.keyed hold K.val (fun v : Value => v) (fun key kl hk => by obtain ⟨x, e, _⟩ := K.inv _ _ hk; exact ⟨x, e⟩) (fun v y hv => ⟨v, rfl⟩) m r N D L cnt hit h1 (fun _ hl => hDone (fun x hx => by rw [← h4 x hx]; exact hl _)) ?_
  intro x v kl y w' cnt' hkey hlx hv hat hrg hlt hgr hsz hen
  obtain ⟨x', e, hx, rfl⟩ := K.inv _ _ hkey
  obtain rfl := K.inj _ _ e
  have hfx : f x = some v := by
    have := (h3 x hx).2 .nil
    rw [hat] at this
    unfold hold at hv
    injection hv with hv
    subst hv
    cases hf : f x with
    | none => rw [hf] at this; simp at this
    | some u => rw [hf] at this; simp at this; rw [this]
  exact hMore x v w' cnt' hx (by rw [← h4 x hx]; exact hlx) hfx ⟨D, _, N, hrg, h2, h3, fun y hy => by rw [h4 y hy, KeyT.same hy hx]⟩ hlt (Frm.of_grown hgr rfl) hsz hen
end
end Go.Proofs.YtgnccpmkdgfjeaaGreat

namespace Go.Proofs.YtgnccpmkdgfjeaaGreat
set_option linter.unusedVariables false
open Go.ChangeShapes Go.WideShapes Go.ChangeAt Go.RowKit

theorem int_undC : Tryz.prog.underlying 3 = some (.int .i64) := by kernel_rfl
/-- Keys that are integers. -/
def intK : KeyT Int where
  kt := 3
  ok := wf64
  val z := .int .i64 z
  lit z := .int .i64 z
  keyed := Maps.int_keyed (q := .i64) (by kernel_rfl)
  key z h := Maps.keyOf_int_mk int_undC h.lit
  inv v l h := by
    obtain ⟨x, rfl, rfl, hw⟩ := Maps.keyOf_int_inv int_undC h
    exact ⟨x, rfl, bounds_i64 hw, rfl⟩
  inj x y h := by injection h
end Go.Proofs.YtgnccpmkdgfjeaaGreat

namespace Go.Proofs.YtgnccpmkdgfjeaaGreat
set_option linter.unusedVariables false
open Go.ChangeShapes Go.WideShapes Go.ChangeAt Go.RowKit Go.Deep
section
variable {P : Program} {w : World} {base : Nat} {t ty e : TypeId} {q : IntKind} {v : Value} {zs us : List Int} {A : Option Addr} {m c bytes : Nat}

/-- Integers of a slice that lie at an address, or of none. -/
theorem Row.cells {k : IntKind} (h : Row k w A m us) (hl : us.length = m) {ad : Addr} (hA : A = some ad) : ∀ j u, (us.map (Value.int k))[j]? = some u → w.cell? (ad.add j) = some u := by
  intro j u hu
  simp only [List.getElem?_map, Option.map_eq_some_iff] at hu
  obtain ⟨n, hn, rfl⟩ := hu
  have hj := (List.getElem?_eq_some_iff.1 hn).1
  obtain ⟨_, _, hc, _⟩ := h
  rcases hc with hc | ⟨b, off, e, hc⟩
  · omega
  · rw [hA] at e
    injection e with e
    subst e
    rw [add_plain, hc j hj]
    simp [List.getD, hn]

theorem app_ints {i : TypeInfo} {z : Value} (ht : P.underlying t = some (.slice e)) (hi : P.info? e = some i) (hz : i.zero = some z) (hs : i.size = 1) (hb : i.bytes = bytes) (hc : z.cells.size = 1)
    (own : w.ownsInts base e q v zs) (src : Row q w A m us) (hl : us.length = m) (hle : zs.length + m ≤ 1048576) (hby : bytes ≤ 64) (hbase : base ≤ w.heap.size) :
    ∃ v' w', (Builtin.append_ #[t, t] ty #[v, .slice A m c]).run P w = .ok v' w' ∧ w'.ownsInts base e q v' (zs ++ us) ∧ w.grownBy w' v.ownBlock ∧ (v'.ownBlock = v.ownBlock ∨ v'.ownBlock = some w.heap.size) := by
  have wf : ∀ x ∈ zs ++ us, (Lit.int q x).wf = true := fun x hx => (List.mem_append.1 hx).elim (own.2 x) (src.2.2.2 x)
  cases A with
  | none =>
    have hm : m = 0 := by
      rcases src.2.2.1 with h | ⟨_, _, h, _⟩
      · exact h
      · cases h
    subst hm
    have hu : us = [] := List.eq_nil_of_length_eq_zero hl
    subst hu
    refine ⟨v, w, ?_, by simpa using own, ⟨rfl, rfl, rfl, Nat.le_refl _, fun _ _ _ => rfl⟩, .inl rfl⟩
    rcases own.1.2 with ⟨rfl, h0⟩ | ⟨g, cap, cur, rfl, _, _, hnc, _⟩
    · simp [Builtin.append_, run_underlying ht, sizeOf, typeInfo, hi, Builtin.lenOf, Builtin.firstCells]
    · simp [Builtin.append_, run_underlying ht, sizeOf, typeInfo, hi, Builtin.lenOf, Builtin.firstCells, hnc, storeCells]
  | some ad =>
    have hbig : (zs.length + m) * bytes ≤ 140737488355328 := by
      have := Nat.mul_le_mul hle hby
      omega
    obtain ⟨v', w', hr, h2, h3, _, h5⟩ := run_append_own_at (P := P) w base t ty e i z 1 bytes ht hi hz hs hb hc (by decide) v zs.length (zs.map (Value.int q)) own.1 ad m c (us.map (Value.int q)) (by simp [hl]) (src.cells hl rfl)
      (by intro u hu; simp at hu; obtain ⟨n, _, rfl⟩ := hu; rfl) (by unfold maxLen; omega) hbig hbase
    exact ⟨v', w', hr, ⟨by simpa [hl] using h2, wf⟩, h3, h5⟩

/-- The same, as one step of a region that draws its order. -/
theorem app_step {ops : Array Oper} {o : Oper} {a : Act} {K : Act → World → Prop} {Q : Exit → Act → World → Prop} {E : Prop} (hg : o.guard = none) (s x : Operand)
    (ho : o.op = .call { callee := .builtin .append, args := #[s, x], argTypes := #[t, t] }) {i : TypeInfo} {z : Value} (ht : P.underlying t = some (.slice e)) (hi : P.info? e = some i) (hz : i.zero = some z) (hs : i.size = 1) (hb : i.bytes = bytes) (hc : z.cells.size = 1) (hby : bytes ≤ 64)
    (hsv : a.eval s = v) (hxv : a.eval x = .slice A m c) (own : w.ownsInts base e q v zs) (src : Row q w A m us) (hl : us.length = m) (hle : zs.length + m ≤ 1048576) (hbase : base ≤ w.heap.size)
    (h : ∀ v' w', w'.ownsInts base e q v' (zs ++ us) → w.grownBy w' v.ownBlock → (v'.ownBlock = v.ownBlock ∨ v'.ownBlock = some w.heap.size) → K (a.put o.dst v') w') :
    if Region.wanted o (yielded ops a.tmps) = true then Oper.wp P o a w K Q else E := by
  rw [if_pos (show Region.wanted o (yielded ops a.tmps) = true by simp [Region.wanted, hg])]
  obtain ⟨v', w', hr, h2, h3, h4⟩ := app_ints (ty := o.type) (c := c) ht hi hz hs hb hc own src hl hle hby hbase
  unfold Oper.wp execOp
  simp only [ho, resolve, invoke, builtin, Sem.run_bind, Sem.run_pure, Result.andThen_ok, List.map_toArray, List.map_cons, List.map_nil, hsv, hxv, hr]
  exact h v' w' h2 h3 h4
/-- A block of the heap. -/
def Has (w : World) (g : Nat) (o : Obj) : Prop := w.heap[g]? = some o
theorem Has.drew {g : Nat} {o : Obj} (h : Has w g o) : Has w.drew g o := h
theorem Has.new (w : World) {g : Nat} {o : Obj} (h : g = w.heap.size) : Has (w.alloc o) g o := by subst h; exact heap_alloc_new w o
theorem Has.alloc {g : Nat} {o : Obj} (h : Has w g o) (o' : Obj) : Has (w.alloc o') g o := by
  have hlt : g < w.heap.size := by
    rcases Nat.lt_or_ge g w.heap.size with hlt | hge
    · exact hlt
    · unfold Has at h; rw [Array.getElem?_eq_none hge] at h; cases h
  exact (heap_alloc_old w o' hlt).trans h
/-- A new block of integers, as a slice of all of it. -/
theorem own_new {g : Nat} {cs : Array Value} (hb : Has w g (.cells cs e)) (hg : base ≤ g) (hcs : cs.toList = zs.map (Value.int q)) (hl : zs.length ≤ 1048576) (hw : ∀ z ∈ zs, (Lit.int q z).wf = true) {n : Nat} (hn : zs.length = n) :
    w.ownsInts base e q (.slice (some ⟨g, 0, none⟩) n n) zs := by
  subst hn
  have hs : cs.size = zs.length := by rw [← Array.length_toList, hcs, List.length_map]
  exact ⟨⟨by simp, .inr ⟨g, zs.length, cs, rfl, hg, hb, Nat.le_refl _, by unfold maxLen; omega, by omega, by rw [hcs, List.take_of_length_le (by simp)]⟩⟩, hw⟩
theorem own_row (h : w.ownsInts base e q v zs) : ∃ A c, v = .slice A zs.length c ∧ Row q w A zs.length zs ∧ zs.length ≤ c ∧ c ≤ maxLen := by
  rcases h.1.2 with ⟨rfl, h0⟩ | ⟨g, cap, cur, rfl, hg, hh, hnc, hcm, hcs, ht⟩
  · have : zs = [] := List.eq_nil_of_length_eq_zero h0
    subst this
    exact ⟨none, 0, rfl, ⟨Nat.le_refl _, by decide, .inl rfl, by simp⟩, by simp, by decide⟩
  · refine ⟨_, cap, rfl, ⟨Nat.le_refl _, by omega, .inr ⟨g, 0, rfl, fun j hj => ?_⟩, h.2⟩, hnc, hcm⟩
    have := h.1.cells (g := g) rfl j (.int q (zs.getD j 0)) (by simp [hj, List.getD])
    rwa [add_plain] at this
/-- The same, its length under a name. -/
theorem own_row' (h : w.ownsInts base e q v zs) : ∃ A n c, v = .slice A n c ∧ Row q w A n zs ∧ Hid (zs.length = n) ∧ n ≤ c ∧ c ≤ maxLen := by
  obtain ⟨A, c, h1, h2, h3, h4⟩ := own_row h
  exact ⟨A, _, c, h1, h2, rfl, h3, h4⟩
/-- Two rows of the call's own, apart from one another; each there, or not yet. -/
structure Two (w W : World) (e : TypeId) (q : IntKind) (x y : Option (Value × List Int)) : Prop where
  below : Below w.heap.size w W
  own1 : ∀ p, x = some p → W.ownsInts w.heap.size e q p.1 p.2
  own2 : ∀ p, y = some p → W.ownsInts w.heap.size e q p.1 p.2
  sep : ∀ p r, x = some p → y = some r → p.1.ownBlock = none ∨ r.1.ownBlock = none ∨ p.1.ownBlock ≠ r.1.ownBlock
section
variable {W : World} {x y : Option (Value × List Int)}
theorem Two.start (h : Below w.heap.size w W) : Two w W e q none none := ⟨h, (fun _ h => by cases h), (fun _ h => by cases h), (fun _ _ h => by cases h)⟩
theorem Two.swap (h : Two w W e q x y) : Two w W e q y x :=
  ⟨h.below, h.own2, h.own1, fun p r hp hr => by rcases h.sep r p hr hp with h | h | h; exact .inr (.inl h); exact .inl h; exact .inr (.inr (Ne.symm h))⟩
theorem Two.drew (h : Two w W e q x y) : Two w W.drew e q x y := ⟨h.below.drew, h.own1, h.own2, h.sep⟩
theorem Two.made (h : Two w W e q none y) {g n : Nat} {cs : Array Value} (hg : g = W.heap.size) (hn : zs.length = n) (hcs : cs.toList = zs.map (Value.int q)) (hl : zs.length ≤ 1048576) (hw : ∀ z ∈ zs, (Lit.int q z).wf = true) :
    Two w (W.alloc (.cells cs e)) e q (some (.slice (some ⟨g, 0, none⟩) n n, zs)) y := by
  subst hg
  refine ⟨h.below.alloc h.below.size _, fun p hp => ?_, fun p hp => (h.own2 p hp).alloc _, fun p r hp hr => ?_⟩
  · cases hp
    exact own_new (Has.new _ rfl) h.below.size hcs hl hw hn
  · cases hp
    refine .inr (.inr fun e => ?_)
    have := ((h.own2 r hr).1.lt W.heap.size e.symm).2
    omega
theorem Two.empty (h : Two w W e q none y) {g : Nat} (hg : g = W.heap.size) : Two w (W.alloc (.cells #[] e)) e q (some (.slice (some ⟨g, 0, none⟩) 0 0, [])) y :=
  h.made (zs := []) (cs := #[]) hg rfl rfl (by simp) (by simp)
theorem Two.zeros (h : Two w W e .u8 none y) {g : Nat} (hg : g = W.heap.size) :
    Two w (W.alloc (.cells #[.int .u8 0, .int .u8 0, .int .u8 0, .int .u8 0, .int .u8 0, .int .u8 0, .int .u8 0, .int .u8 0] e)) e .u8 (some (.slice (some ⟨g, 0, none⟩) 8 8, List.replicate 8 0)) y :=
  h.made (zs := List.replicate 8 0) hg rfl rfl (by simp) (by decide)
theorem Two.appended (h : Two w W e q (some (v, zs)) y) {v' : Value} {W' : World} {us : List Int} (own : W'.ownsInts w.heap.size e q v' (zs ++ us)) (hg : W.grownBy W' v.ownBlock) (hat : v'.ownBlock = v.ownBlock ∨ v'.ownBlock = some W.heap.size) :
    Two w W' e q (some (v', zs ++ us)) y := by
  have o1 := h.own1 _ rfl
  refine ⟨h.below.grown hg h.below.size (fun k e => (o1.1.lt k e).1), fun p hp => by cases hp; exact own, fun r hr => ?_, fun p r hp hr => ?_⟩
  · refine (h.own2 r hr).kept hg ?_
    rcases h.sep _ r rfl hr with h1 | h1 | h1
    · rw [h1]
      cases hb : r.1.ownBlock
      · exact .inl rfl
      · exact .inr (by simp)
    · exact .inl h1
    · exact .inr (Ne.symm h1)
  · cases hp
    rcases hat with hat | hat
    · rcases h.sep _ r rfl hr with h1 | h1 | h1
      · exact .inl (hat.trans h1)
      · exact .inr (.inl h1)
      · exact .inr (.inr (by rw [hat]; exact h1))
    · refine .inr (.inr fun e => ?_)
      have := ((h.own2 r hr).1.lt W.heap.size (by rw [← e, hat])).2
      omega
/-- append onto the first of the two, as one step of a region that draws its order. -/
theorem two_step {ops : Array Oper} {o : Oper} {a : Act} {K : Act → World → Prop} {Q : Exit → Act → World → Prop} {E : Prop} (hg : o.guard = none) (s x : Operand)
    (ho : o.op = .call { callee := .builtin .append, args := #[s, x], argTypes := #[t, t] }) {i : TypeInfo} {z : Value} (ht : P.underlying t = some (.slice e)) (hi : P.info? e = some i) (hz : i.zero = some z) (hs : i.size = 1) (hb : i.bytes = bytes) (hc : z.cells.size = 1) (hby : bytes ≤ 64)
    (hsv : a.eval s = v) (hxv : a.eval x = .slice A m c) (two : Two w W e q (some (v, zs)) y) (src : Row q w A m us) (hl : us.length = m) (hle : zs.length + m ≤ 1048576)
    (h : ∀ v' W', Two w W' e q (some (v', zs ++ us)) y → K (a.put o.dst v') W') :
    if Region.wanted o (yielded ops a.tmps) = true then Oper.wp P o a W K Q else E :=
  app_step hg s x ho ht hi hz hs hb hc hby hsv hxv (two.own1 _ rfl) (src.later two.below) hl hle two.below.size fun v' W' h1 h2 h3 => h v' W' (two.appended h1 h2 h3)
/-- append of the second of the two onto the first. -/
theorem two_join {ops : Array Oper} {o : Oper} {a : Act} {K : Act → World → Prop} {Q : Exit → Act → World → Prop} {E : Prop} (hg : o.guard = none) (s x : Operand)
    (ho : o.op = .call { callee := .builtin .append, args := #[s, x], argTypes := #[t, t] }) {i : TypeInfo} {z : Value} (ht : P.underlying t = some (.slice e)) (hi : P.info? e = some i) (hz : i.zero = some z) (hs : i.size = 1) (hb : i.bytes = bytes) (hc : z.cells.size = 1) (hby : bytes ≤ 64)
    {v2 : Value} (hsv : a.eval s = v) (hxv : a.eval x = v2) (two : Two w W e q (some (v, zs)) (some (v2, us))) (hle : zs.length + us.length ≤ 1048576)
    (h : ∀ v' W', W'.ownsInts w.heap.size e q v' (zs ++ us) → Below w.heap.size w W' → K (a.put o.dst v') W') :
    if Region.wanted o (yielded ops a.tmps) = true then Oper.wp P o a W K Q else E := by
  have o2 : W.ownsInts w.heap.size e q v2 us := two.own2 _ rfl
  obtain ⟨A, c, rfl, hr, _, _⟩ := own_row o2
  exact app_step hg s x ho ht hi hz hs hb hc hby hsv hxv (two.own1 _ rfl) hr rfl hle two.below.size fun v' W' h1 h2 h3 => h v' W' h1 (two.appended h1 h2 h3).below
end
end
end Go.Proofs.YtgnccpmkdgfjeaaGreat

namespace Go.Proofs.YtgnccpmkdgfjeaaGreat
set_option linter.unusedVariables false
open Go.ChangeShapes Go.WideShapes Go.ChangeAt Go.RowKit Go.Deep

theorem int_slice : Tryz.prog.underlying 31 = some (.slice 3) := by kernel_rfl
theorem int_info : (Tryz.prog.info? 3).map (fun i => (i.zero, i.size, i.bytes)) = some (some (.int .i64 0), 1, 8) := by kernel_rfl
/-- A slice of int that was made since the world had 'base' blocks. -/
abbrev Ints (w : World) (base : Nat) (v : Value) (zs : List Int) : Prop := w.ownsInts base 3 .i64 v zs
abbrev iobj (zs : List Int) : Obj := .cells ⟨zs.map (Value.int .i64)⟩ 3
section
variable {w w' : World} {base : Nat} {v : Value} {zs us : List Int} {A : Option Addr} {m c : Nat}

theorem Ints.block (h : Ints w base v zs) {g : Nat} (hg : v.ownBlock = some g) : ∃ cs, w.heap[g]? = some (.cells cs 3 (0, 0)) := by
  rcases h.1.2 with ⟨rfl, _⟩ | ⟨g', cap, cur, rfl, _, hh, _⟩
  · cases hg
  · cases hg
    exact ⟨cur, hh⟩
/-- Blocks of other kinds may turn. -/
theorem Ints.frm {F : Nat → Prop} (h : Ints w base v zs) (hf : Frm F w w') (hF : ∀ j, F j → ∀ cs, w.heap[j]? ≠ some (.cells cs 3 (0, 0))) : Ints w' base v zs := by
  refine ⟨⟨h.1.1, ?_⟩, h.2⟩
  rcases h.1.2 with h0 | ⟨g, cap, cur, hv, hb, hh, hr⟩
  · exact .inl h0
  · exact .inr ⟨g, cap, cur, hv, hb, by rw [hf.block g (heap_lt hh) (fun hc => hF g hc cur hh)]; exact hh, hr⟩
theorem Ints.below (h : Ints w base v zs) (hb : Below w.heap.size w w') : Ints w' base v zs := h.frm (F := fun _ => False) (Frm.of_below hb) (fun _ hc => hc.elim)
theorem Ints.ali (h : Ints w base v zs) (ha : Ali w w') : Ints w' base v zs := h.below (ali_below ha)
theorem Ints.mono (h : Ints w base v zs) {base' : Nat} (hb : base' ≤ base) : Ints w base' v zs := by
  refine ⟨⟨h.1.1, ?_⟩, h.2⟩
  rcases h.1.2 with h0 | ⟨g, cap, cur, hv, hb', hr⟩
  · exact .inl h0
  · exact .inr ⟨g, cap, cur, hv, by omega, hr⟩
theorem Ints.nil (w : World) (base : Nat) : Ints w base (.slice none 0 0) [] := World.ownsInts_nil _ _ _ _
theorem Row.of_cells {n : Nat} {b off : Nat} (hl : zs.length = n) (hm : n ≤ maxLen) (hw : ∀ z ∈ zs, wf64 z) (hc : ∀ j, j < zs.length → w.cell? ⟨b, off + j, none⟩ = some (.int .i64 (zs.getD j 0))) : Row .i64 w (some ⟨b, off, none⟩) n zs :=
  ⟨by omega, hm, .inr ⟨b, off, rfl, hc⟩, fun z hz => (hw z hz).lit⟩
theorem row_new (w : World) (zs : List Int) (hl : zs.length = m) (hm : m ≤ maxLen) (hw : ∀ z ∈ zs, wf64 z) : Row .i64 (w.alloc (iobj zs)) (some ⟨w.heap.size, 0, none⟩) m zs := by
  refine Row.of_cells hl hm hw fun j hj => ?_
  rw [cell_of (heap_alloc_at w _)]
  simp [List.getD, hj]
theorem row_one (w : World) (x : Int) (hx : wf64 x) : Row .i64 (w.alloc (.cells #[.int .i64 x] 3)) (some ⟨w.heap.size, 0, none⟩) 1 [x] := row_new w [x] rfl (by decide) (by simpa using hx)
theorem Row.frm {F : Nat → Prop} {k : IntKind} (h : Row k w A m zs) (hf : Frm F w w') (hF : ∀ b off, A = some ⟨b, off, none⟩ → ¬ F b) : Row k w' A m zs := by
  obtain ⟨h1, h2, h3, h4⟩ := h
  refine ⟨h1, h2, ?_, h4⟩
  rcases h3 with h0 | ⟨b, off, rfl, hc⟩
  · exact .inl h0
  · by_cases hz : zs.length = 0
    · exact .inl (by omega)
    · have hlt := cell_lt (hc 0 (by omega))
      exact .inr ⟨b, off, rfl, fun j hj => (World.cell?_of_block (w := w) (hf.block b hlt (hF b off rfl))).trans (hc j hj)⟩
theorem Row.ali {k : IntKind} (h : Row k w A m zs) (ha : Ali w w') : Row k w' A m zs := h.later (ali_below ha)
/-- The j-th number. -/
theorem Row.at_ {k : IntKind} (h : Row k w A m zs) {j : Nat} (hj : j < m) : ∃ b off, A = some ⟨b, off, none⟩ ∧ w.cell? ⟨b, off + j, none⟩ = some (.int k (zs.getD j 0)) := by
  rcases h.2.2.1 with h0 | ⟨b, off, e, hc⟩
  · omega
  · exact ⟨b, off, e, hc j (by have := h.1; omega)⟩
/-- A grown row leaves alone what is not in its block. -/
theorem grown_below {B : Nat} (hg : w.grownBy w' v.ownBlock) (hB : B ≤ w.heap.size) (hlo : ∀ g, v.ownBlock = some g → B ≤ g) : Below B w w' :=
  ⟨hg.os, hg.tape, hg.output, hg.size, fun j hj => hg.block j (by omega) (fun e => by have := hlo j e.symm; omega)⟩
theorem Ints.low (h : Ints w base v zs) : ∀ g, v.ownBlock = some g → base ≤ g := fun g hg => (h.1.lt g hg).1

theorem Ints.row {n : Nat} (h : Ints w base (.slice A n c) zs) : Row .i64 w A n zs ∧ zs.length = n ∧ n ≤ c ∧ c ≤ maxLen := by
  obtain ⟨A', n', c', e, h1, h2, h3, h4⟩ := own_row' h
  injection e with e1 e2 e3
  subst e1 e2 e3
  exact ⟨h1, h2.out, h3, h4⟩
/-- append onto a slice of the call's own, in a straight walk. -/
theorem wpList_app {ops : Array Oper} {rest : List Oper} {o : Oper} {a : Act} {Q : Exit → Act → World → Prop} (hg : o.guard = none) (s x : Operand)
    (ho : o.op = .call { callee := .builtin .append, args := #[s, x], argTypes := #[31, 31] })
    (hsv : a.eval s = v) (hxv : a.eval x = .slice A m c) (own : Ints w base v zs) (src : Row .i64 w A m us) (hl : us.length = m) (hle : zs.length + m ≤ 1048576) (hbase : base ≤ w.heap.size)
    (h : ∀ v' w', Ints w' base v' (zs ++ us) → w.grownBy w' v.ownBlock → (v'.ownBlock = v.ownBlock ∨ v'.ownBlock = some w.heap.size) → wpList Tryz.prog ops Q rest (a.put o.dst v') w') : wpList Tryz.prog ops Q (o :: rest) a w := by
  refine wpList_plain hg fun _ hK => ?_
  obtain ⟨i0, hi0, hz0, hz1, hz2⟩ := info_parts int_info
  obtain ⟨v', w', hr, h2, h3, h4⟩ := app_ints (ty := o.type) (c := c) int_slice hi0 hz0 hz1 hz2 rfl own src hl hle (by omega) hbase
  unfold Oper.wp execOp
  simp only [ho, resolve, invoke, builtin, Sem.run_bind, Sem.run_pure, Result.andThen_ok, List.map_toArray, List.map_cons, List.map_nil, hsv, hxv, hr]
  exact hK _ _ (h v' w' h2 h3 h4)
end
end Go.Proofs.YtgnccpmkdgfjeaaGreat

namespace Go.Proofs.YtgnccpmkdgfjeaaGreat
set_option linter.unusedVariables false
open Go.ChangeShapes Go.WideShapes Go.ChangeAt Go.RowKit

/-- A ring's block: how many there may be, how many there are, the places. -/
abbrev robj (most n : Int) (Z : List Int) : Obj := .cells ⟨.int .i64 most :: .int .i64 n :: Z.map (Value.int .i64)⟩ 258
theorem robj_set (most n : Int) (Z : List Int) (j : Nat) (z : Int) : (Array.mk (Value.int .i64 most :: Value.int .i64 n :: Z.map (Value.int .i64))).setIfInBounds (2 + j) (.int .i64 z) = ⟨.int .i64 most :: .int .i64 n :: (Z.set j z).map (Value.int .i64)⟩ := by
  rw [Nat.add_comm]; simp [List.map_set]
theorem robj_cell {w : World} {b : Nat} {most n : Int} {Z : List Int} (h : w.heap[b]? = some (robj most n Z)) {j : Nat} {z : Int} (hz : Z[j]? = some z) : w.cell? ⟨b, 2 + j, none⟩ = some (.int .i64 z) := by
  rw [cell_of h, Nat.add_comm]; simp [hz]
theorem robj_cells {w : World} {b : Nat} {most n : Int} {Z : List Int} (h : w.heap[b]? = some (robj most n Z)) : w.cell? ⟨b, 0, none⟩ = some (.int .i64 most) ∧ w.cell? ⟨b, 1, none⟩ = some (.int .i64 n) := ⟨by rw [cell_of h]; rfl, by rw [cell_of h]; rfl⟩

structure Rng (w : World) (b most : Nat) (L : List Int) : Prop where
  blk : ∃ Z : List Int, w.heap[b]? = some (robj most L.length Z) ∧ Z.length = 8 ∧ ∀ j, j < L.length → Z[j]? = L[j]?
  le : L.length ≤ most
  le8 : most ≤ 8
  wf : ∀ z ∈ L, wf64 z
section
variable {w w' : World} {b most : Nat} {L : List Int}
theorem Rng.keep (h : Rng w b most L) (hk : w'.heap[b]? = w.heap[b]?) : Rng w' b most L := by
  obtain ⟨Z, h1, h2⟩ := h.blk
  exact ⟨⟨Z, hk.trans h1, h2⟩, h.le, h.le8, h.wf⟩
theorem Rng.lt (h : Rng w b most L) : b < w.heap.size := by obtain ⟨Z, h1, _⟩ := h.blk; exact heap_lt h1
theorem Rng.below (h : Rng w b most L) (hb : Below w.heap.size w w') : Rng w' b most L := h.keep (hb.block b h.lt)
theorem Rng.ali (h : Rng w b most L) (ha : Ali w w') : Rng w' b most L := h.keep (by rw [ha.heap])
theorem Rng.frm {F : Nat → Prop} (h : Rng w b most L) (hf : Frm F w w') (hn : ¬ F b) : Rng w' b most L := h.keep (hf.block b h.lt hn)
/-- A block of another kind is another one. -/
theorem Rng.other (h : Rng w b most L) {j : Nat} {cs : Array Value} {t : TypeId} {f : Nat × Nat} (hj : w.heap[j]? = some (.cells cs t f)) (ht : t ≠ 258) : j ≠ b := by
  obtain ⟨Z, h1, _⟩ := h.blk
  rintro rfl
  rw [h1] at hj
  injection hj with hj
  injection hj with _ hj
  exact ht hj.symm
/-- Rows of int, and other blocks, stay as they are beside a ring. -/
theorem Rng.ints (h : Rng w b most L) (hf : Frm (· = b) w w') {base : Nat} {v : Value} {zs : List Int} (hi : Ints w base v zs) : Ints w' base v zs :=
  hi.frm hf (fun j hj cs hc => h.other hc (by decide) hj)
theorem Rng.kept (h : Rng w b most L) (hf : Frm (· = b) w w') {j : Nat} {cs : Array Value} {t : TypeId} {f : Nat × Nat} (hj : w.heap[j]? = some (.cells cs t f)) (ht : t ≠ 258) : w'.heap[j]? = some (.cells cs t f) := by
  rw [hf.block j (heap_lt hj) (h.other hj ht)]; exact hj
end

theorem new_some (most : Nat) (w : World) (h : most ≤ 8) :
    Calls Tryz.prog 144 #[.int .i64 most] w fun r w' => r = .returned (.pointer (some ⟨w.heap.size, 0, none⟩)) ∧ Rng w' w.heap.size most [] ∧ Below w.heap.size w w' := by
  have h1 : ¬ (most : Int) < 0 := by omega
  have h2 : ¬ (8 : Int) < (most : Int) := by omega
  have hr : Rng (w.alloc (robj most 0 (List.replicate 8 0))) w.heap.size most [] := ⟨⟨_, heap_alloc_at w _, rfl, by simp⟩, by simp, h, by simp⟩
  have HR := Lib.hid hr
  have HB := Lib.hid (below_alloc w (robj most 0 (List.replicate 8 0)))
  clear hr
  go_enter Tryz.func144, Tryz.ntmps144
  go_wp2
  go_ret
  exact ⟨rfl, HR.out, HB.out⟩
theorem new_none (most : Int) (w : World) (h : most < 0 ∨ 8 < most) :
    Calls Tryz.prog 144 #[.int .i64 most] w fun r w' => r = .returned (.pointer none) ∧ w' = w := by
  by_cases h1 : most < 0
  · go_enter Tryz.func144, Tryz.ntmps144
    go_wp2
    go_ret
    exact ⟨rfl, rfl⟩
  · have h2 : 8 < most := by omega
    go_enter Tryz.func144, Tryz.ntmps144
    go_wp2
    go_ret
    exact ⟨rfl, rfl⟩
theorem len_ring (b most : Nat) (L : List Int) (w : World) (h : Rng w b most L) :
    Calls Tryz.prog 156 #[.pointer (some ⟨b, 0, none⟩)] w fun r w' => r = .returned (.int .i64 L.length) ∧ w' = w := by
  obtain ⟨Z, h1, _⟩ := h.blk
  obtain ⟨c0, c1⟩ := robj_cells h1
  clear h h1
  go_enter Tryz.func156, Tryz.ntmps156
  go_wp2
  go_ret
  exact ⟨rfl, rfl⟩
theorem len_nil (w : World) : Calls Tryz.prog 156 #[.pointer none] w fun r w' => r = .returned (.int .i64 0) ∧ w' = w := by
  go_enter Tryz.func156, Tryz.ntmps156
  go_wp2
  go_ret
  exact ⟨rfl, rfl⟩
theorem full_ring (b most : Nat) (L : List Int) (w : World) (h : Rng w b most L) :
    Calls Tryz.prog 183 #[.pointer (some ⟨b, 0, none⟩)] w fun r w' => r = .returned (.bool ((L.length : Int) == (most : Int))) ∧ Ali w w' := by
  obtain ⟨Z, h1, _⟩ := h.blk
  obtain ⟨c0, c1⟩ := robj_cells h1
  clear h h1
  go_enter Tryz.func183, Tryz.ntmps183
  go_wp2
  go_quiet (fail)
  go_wp2
  go_ret
  exact ⟨rfl, drewN_ali _ _⟩
theorem full_nil (w : World) : Calls Tryz.prog 183 #[.pointer none] w fun r w' => r = .returned (.bool true) ∧ Ali w w' := by
  go_enter Tryz.func183, Tryz.ntmps183
  go_wp2
  go_quiet (fail)
  go_wp2
  go_ret
  exact ⟨rfl, drewN_ali _ _⟩
end Go.Proofs.YtgnccpmkdgfjeaaGreat

namespace Go.Proofs.YtgnccpmkdgfjeaaGreat
set_option linter.unusedVariables false
open Go.ChangeShapes Go.WideShapes Go.ChangeAt Go.RowKit

theorem Frm.one {b : Nat} {a w : World} (h : Frm (· = b) a w) (o : Nat) (u : Value) : Frm (· = b) a (w.setCell ⟨b, o, none⟩ u) := Frm.set (F := (· = b)) (p := ⟨b, o, none⟩) h rfl u
/-- The places when those behind p have moved up by i rounds. -/
def Up (Z Z' : List Int) (p i : Nat) : Prop := Z'.length = 8 ∧ ∀ j, j < 8 → Z'[j]? = if p ≤ j ∧ j < p + i then Z[j + 1]? else Z[j]?
theorem Up.step {Z Z' : List Int} {p i : Nat} (h : Up Z Z' p i) (hp : p + i + 1 < 8) {z : Int} (hz : Z[p + i + 1]? = some z) : Up Z (Z'.set (p + i) z) p (i + 1) := by
  refine ⟨by simp [h.1], fun j hj => ?_⟩
  rw [List.getElem?_set]
  by_cases hj' : p + i = j
  · subst hj'
    rw [if_pos rfl, if_pos (by rw [h.1]; omega), if_pos (by omega), hz]
  · rw [if_neg hj', h.2 j hj]
    by_cases hc : p ≤ j ∧ j < p + i
    · rw [if_pos hc, if_pos (by omega)]
    · rw [if_neg hc, if_neg (by omega)]
theorem Rng.dropped {w : World} {b most : Nat} {L Z Z' : List Int} {p n : Nat} (h1 : w.heap[b]? = some (robj most (n : Int) (Z'.set n 0))) (hn : L.length = n + 1) (hZ : ∀ j, j < L.length → Z[j]? = L[j]?) (hu : Up Z Z' p (n - p)) (hp : p ≤ n)
    (hle : L.length ≤ most) (h8 : most ≤ 8) (hwf : ∀ z ∈ L, wf64 z) : Rng w b most (L.eraseIdx p) := by
  have hl : (L.eraseIdx p).length = n := by rw [List.length_eraseIdx]; split <;> omega
  refine ⟨⟨Z'.set n 0, by rw [hl]; exact h1, by simp [hu.1], fun j hj => ?_⟩, by omega, h8, fun z hz => hwf z (List.mem_of_mem_eraseIdx hz)⟩
  rw [hl] at hj
  rw [List.getElem?_set_ne (by omega), hu.2 j (by omega), List.getElem?_eraseIdx]
  by_cases hc : j < p
  · rw [if_pos hc, if_neg (by omega), hZ j (by omega)]
  · rw [if_neg hc, if_pos (by omega), hZ (j + 1) (by omega)]

set_option maxHeartbeats 1000000 in
theorem drop_ring (b most p : Nat) (L : List Int) (w : World) (h : Rng w b most L) (hp : p < L.length) :
    Calls Tryz.prog 174 #[.pointer (some ⟨b, 0, none⟩), .int .i64 p] w fun r w' => r = .returned (.tuple #[]) ∧ Frm (· = b) w w' ∧ Rng w' b most (L.eraseIdx p) := by
  obtain ⟨Z, h1, hZ8, hZ⟩ := h.blk
  obtain ⟨n, hn⟩ : ∃ n, L.length = n + 1 := ⟨L.length - 1, by omega⟩
  have hle := h.le
  have h8 := h.le8
  have hwf := h.wf
  obtain ⟨c0, c1⟩ := robj_cells h1
  have f1 := frozen_of h1 1
  rw [hn] at h1 c1
  have hset := heap_set_same (o := 1) h1 (.int .i64 (n : Int))
  have hset' : (w.setCell ⟨b, 1, none⟩ (.int .i64 n)).heap[b]? = some (robj most n Z) := hset
  have hfr : Frm (· = b) w (w.setCell ⟨b, 1, none⟩ (.int .i64 n)) := (Frm.refl _ _).one _ _
  have H1 := Lib.hid hset'
  have HF := Lib.hid hfr
  have HZ := Lib.hid hZ
  have HZ8 := Lib.hid hZ8
  have HN := Lib.hid hn
  have HWF := Lib.hid hwf
  have hpn : p ≤ n := by omega
  have hn7 : n ≤ 7 := by omega
  clear h h1 hset hset' hfr hZ hZ8 hwf hp
  rw [hn] at hle
  clear hn
  have hcast : ((n : Int) + 1 - 1) = n := by omega
  go_enter Tryz.func174, Tryz.ntmps174
  go_wp2
  go_loopg [18] (n - p) (fun k v18 wr => ∃ (i : Nat) (Z' : List Int), i + k = n - p ∧ v18 = .int .i64 i ∧ wr.heap[b]? = some (robj most n Z') ∧ Up Z Z' p i ∧ Frm (· = b) w wr)
  case atStart =>
    refine ⟨0, Z, by omega, rfl, ?_, ⟨HZ8.out, fun j hj => by rw [if_neg (by omega)]⟩, ?_⟩
    · exact H1.out
    · exact HF.out
  case round =>
    obtain ⟨i, Z', hi, rfl, hb, hu, hf⟩ := hrel
    have HI := Lib.hid hi
    have HU := Lib.hid hu
    have HB := Lib.hid hb
    have HFr := Lib.hid hf
    by_cases hlt : i < n - p
    · have hlt' : (i : Int) < (n : Int) - (p : Int) := by omega
      have hz : Z[p + i + 1]? = some (Z[p + i + 1]'(by have := HZ8.out; omega)) := List.getElem?_eq_getElem _
      have hz' : Z'[p + i + 1]? = Z[p + i + 1]? := by rw [hu.2 _ (by omega), if_neg (by omega)]
      have hy : Z'[p + i]? = some (Z'[p + i]'(by have := hu.1; omega)) := List.getElem?_eq_getElem _
      generalize Z[p + i + 1]'(by have := HZ8.out; omega) = z at hz
      generalize Z'[p + i]'(by have := hu.1; omega) = y at hy
      have q1 := robj_cell hb (hz'.trans hz)
      have q0 := robj_cell hb hy
      have fq := frozen_of hb (2 + (p + i))
      have HZZ := Lib.hid hz
      have b1 : (p : Int) + i + 1 < 8 := by omega
      have b0 : (p : Int) + i < 8 := by omega
      have b2 : (0 : Int) ≤ (p : Int) + i := by omega
      clear hi hu hb hf hz hz' hy
      go_wp2
      go_region
      go_wp2
      go_roundg (n - p - (i + 1))
      case measure => have := HI.out; omega
      case rel =>
        refine ⟨i + 1, Z'.set (p + i) z, by omega, by simp, ?_, HU.out.step (by omega) HZZ.out, ?_⟩
        · exact (heap_set_same HB.out _).trans (by rw [robj_set])
        · exact (HFr.out.one _ _).ali (drew_ali _)
    · have hlt' : ¬ (i : Int) < (n : Int) - (p : Int) := by omega
      obtain ⟨c0', c1'⟩ := robj_cells hb
      have hy : Z'[n]? = some (Z'[n]'(by have := hu.1; omega)) := List.getElem?_eq_getElem _
      generalize Z'[n]'(by have := hu.1; omega) = y at hy
      have q0 := robj_cell hb hy
      have fq := frozen_of hb (2 + n)
      have b0 : (n : Int) < 8 := by omega
      clear hi hu hb hf hy
      go_wp2
      go_region
      go_wp2
      go_end0
      refine ⟨rfl, (HFr.out.one _ _).ali (drew_ali _), Rng.dropped (Z := Z) (Z' := Z') (n := n) ?_ HN.out HZ.out ?_ hpn (by rw [HN.out]; exact hle) h8 HWF.out⟩
      · exact (heap_set_same HB.out _).trans (by rw [robj_set])
      · have := HI.out
        rw [show n - p = i by omega]
        exact HU.out

theorem Rng.pushed {w : World} {b most : Nat} {L Z : List Int} {x : Int} (h1 : w.heap[b]? = some (robj most ((L.length : Int) + 1) (Z.set L.length x))) (hZ8 : Z.length = 8) (hZ : ∀ j, j < L.length → Z[j]? = L[j]?)
    (hle : L.length < most) (h8 : most ≤ 8) (hwf : ∀ z ∈ L, wf64 z) (hx : wf64 x) : Rng w b most (L ++ [x]) := by
  refine ⟨⟨Z.set L.length x, by rw [h1, List.length_append]; rfl, by simp [hZ8], fun j hj => ?_⟩, by simp; omega, h8, fun z hz => ?_⟩
  · rw [List.length_append] at hj
    simp at hj
    by_cases hc : j = L.length
    · subst hc
      rw [List.getElem?_set_self (by omega)]
      simp
    · rw [List.getElem?_set_ne (by omega), hZ j (by omega), List.getElem?_append_left (by omega)]
  · rcases List.mem_append.1 hz with hz | hz
    · exact hwf z hz
    · simp at hz; rw [hz]; exact hx

theorem push_full (b most : Nat) (x : Int) (L : List Int) (w : World) (h : Rng w b most L) (hl : L.length = most) :
    Calls Tryz.prog 170 #[.pointer (some ⟨b, 0, none⟩), .int .i64 x] w fun r w' => r = .returned (.bool false) ∧ Ali w w' := by
  have hf := full_ring b most L w h
  rw [show ((L.length : Int) == (most : Int)) = true by simp [hl]] at hf
  clear h hl
  go_enter Tryz.func170, Tryz.ntmps170
  go_wp2_with fail
  refine hf.mono ?_
  clear hf
  rintro r w1 ⟨rfl, ha⟩
  have HA := Lib.hid ha
  clear ha
  go_wp2
  go_ret
  exact ⟨rfl, HA.out⟩
set_option maxHeartbeats 1000000 in
theorem push_some (b most : Nat) (x : Int) (L : List Int) (w : World) (h : Rng w b most L) (hl : L.length < most) (hx : wf64 x) :
    Calls Tryz.prog 170 #[.pointer (some ⟨b, 0, none⟩), .int .i64 x] w fun r w' => r = .returned (.bool true) ∧ Frm (· = b) w w' ∧ Rng w' b most (L ++ [x]) := by
  have hf := full_ring b most L w h
  rw [show ((L.length : Int) == (most : Int)) = false by simp; omega] at hf
  obtain ⟨n, hn⟩ : ∃ n, L.length = n := ⟨_, rfl⟩
  have H := Lib.hid h
  have HL := Lib.hid hl
  have HN := Lib.hid hn
  have HX := Lib.hid hx
  clear h hl hx
  go_enter Tryz.func170, Tryz.ntmps170
  go_wp2_with fail
  refine hf.mono ?_
  clear hf
  rintro r w1 ⟨rfl, ha⟩
  have h1 := H.out.ali ha
  obtain ⟨Z, hb, hZ8, hZ⟩ := h1.blk
  have hm8 := h1.le8
  have hl := HL.out
  have HA := Lib.hid ha
  obtain ⟨c0, c1⟩ := robj_cells hb
  rw [hn] at c1 hl
  have hy : Z[n]? = some (Z[n]'(by omega)) := List.getElem?_eq_getElem _
  generalize Z[n]'(by omega) = y at hy
  have q0 := robj_cell hb hy
  have f0 := frozen_of hb (2 + n)
  have f1 := frozen_of hb 1
  have b0 : (n : Int) < 8 := by omega
  have HB := Lib.hid hb
  have HZ := Lib.hid hZ
  have HZ8 := Lib.hid hZ8
  have HW := Lib.hid h1.wf
  have ne1 : (2 + n : Nat) ≠ 1 := by omega
  have ne2 : (1 : Nat) ≠ 2 + n := by omega
  clear ha h1 hb hZ hZ8 hy hn hl
  go_wp2
  go_region
  go_wp2
  go_ret
  refine ⟨rfl, (((Frm.of_ali HA.out).one _ _).one _ _).ali (drew_ali _), Rng.pushed (Z := Z) ?_ HZ8.out HZ.out HL.out hm8 HW.out HX.out⟩
  have hb := HB.out
  rw [HN.out] at hb ⊢
  have h2 := heap_set_same (o := 2 + n) hb (.int .i64 x)
  rw [robj_set] at h2
  exact heap_set_same (o := 1) h2 _
theorem push_nil (x : Int) (w : World) : Calls Tryz.prog 170 #[.pointer none, .int .i64 x] w fun r w' => r = .returned (.bool false) ∧ Ali w w' := by
  go_enter Tryz.func170, Tryz.ntmps170
  go_wp2_with fail
  refine (full_nil w).mono ?_
  rintro r w1 ⟨rfl, ha⟩
  have HA := Lib.hid ha
  clear ha
  go_wp2
  go_ret
  exact ⟨rfl, HA.out⟩

theorem pop_none (b most : Nat) (w : World) (h : Rng w b most []) :
    Calls Tryz.prog 139 #[.pointer (some ⟨b, 0, none⟩)] w fun r w' => r = .returned (.tuple #[.int .i64 0, .bool false]) ∧ w' = w := by
  have hf := len_ring b most [] w h
  clear h
  go_enter Tryz.func139, Tryz.ntmps139
  go_wp2_with fail
  refine hf.mono ?_
  clear hf
  rintro r w1 ⟨rfl, rfl⟩
  go_wp2
  go_ret2
  exact ⟨rfl, rfl⟩
theorem pop_nil (w : World) : Calls Tryz.prog 139 #[.pointer none] w fun r w' => r = .returned (.tuple #[.int .i64 0, .bool false]) ∧ w' = w := by
  go_enter Tryz.func139, Tryz.ntmps139
  go_wp2_with fail
  refine (len_nil w).mono ?_
  rintro r w1 ⟨rfl, rfl⟩
  go_wp2
  go_ret2
  exact ⟨rfl, rfl⟩
theorem pop_some (b most : Nat) (x : Int) (l : List Int) (w : World) (h : Rng w b most (x :: l)) :
    Calls Tryz.prog 139 #[.pointer (some ⟨b, 0, none⟩)] w fun r w' => r = .returned (.tuple #[.int .i64 x, .bool true]) ∧ Frm (· = b) w w' ∧ Rng w' b most l := by
  have hf := len_ring b most (x :: l) w h
  have hd : Calls Tryz.prog 174 #[.pointer (some ⟨b, 0, none⟩), .int .i64 0] w _ := drop_ring b most 0 (x :: l) w h (by simp)
  obtain ⟨n, hn⟩ : ∃ n, (x :: l).length = n := ⟨_, rfl⟩
  rw [hn] at hf
  have hne : ((n : Int) == 0) = false := by rw [← hn]; simp; omega
  obtain ⟨Z, hb, hZ8, hZ⟩ := h.blk
  have q0 : w.cell? ⟨b, 2, none⟩ = some (.int .i64 x) := robj_cell hb (by rw [hZ 0 (by simp)]; rfl)
  clear h hn hb hZ8 hZ
  go_enter Tryz.func139, Tryz.ntmps139
  go_wp2_with fail
  refine hf.mono ?_
  clear hf
  rintro r w1 ⟨rfl, rfl⟩
  go_wp2_with fail
  refine hd.mono ?_
  clear hd
  rintro r w2 ⟨rfl, h2, h3⟩
  have H2 := Lib.hid h2
  have H3 := Lib.hid h3
  clear h2 h3
  go_wp2
  go_ret2
  exact ⟨rfl, H2.out, H3.out⟩

theorem erase_at {L : List Int} {j : Nat} {x : Int} (h : L[j]? = some x) (hn : x ∉ L.take j) : L.erase x = L.eraseIdx j := by
  have hlt := (List.getElem?_eq_some_iff.1 h).1
  have he := (List.getElem?_eq_some_iff.1 h).2
  have hs : L = L.take j ++ x :: L.drop (j + 1) := by rw [← he, ← List.drop_eq_getElem_cons hlt, List.take_append_drop]
  rw [List.eraseIdx_eq_take_drop_succ]
  conv => lhs; rw [hs]
  rw [List.erase_append_right _ hn, List.erase_cons_head]

set_option maxHeartbeats 1000000 in
theorem remove_ring (b most : Nat) (x : Int) (L : List Int) (w : World) (h : Rng w b most L) :
    Calls Tryz.prog 142 #[.pointer (some ⟨b, 0, none⟩), .int .i64 x] w fun r w' => r = .returned (.bool (decide (x ∈ L))) ∧ Frm (· = b) w w' ∧ Rng w' b most (L.erase x) := by
  have hf := len_ring b most L w h
  obtain ⟨n, hn⟩ : ∃ n, L.length = n := ⟨_, rfl⟩
  rw [hn] at hf
  have hn8 : n ≤ 8 := by have := h.le; have := h.le8; omega
  have H := Lib.hid h
  have HN := Lib.hid hn
  clear h hn
  go_enter Tryz.func142, Tryz.ntmps142
  go_wp2_with fail
  refine hf.mono ?_
  clear hf
  rintro r w1 ⟨rfl, rfl⟩
  go_wp2
  go_loopg [8] n (fun k v8 wr => ∃ j : Nat, j + k = n ∧ v8 = .int .i64 j ∧ x ∉ L.take j ∧ wr = w1)
  case atStart => exact ⟨0, by omega, rfl, by simp, rfl⟩
  case round =>
    obtain ⟨j, hj, rfl, hno, rfl⟩ := hrel
    have HJ := Lib.hid hj
    have HNO := Lib.hid hno
    clear hno hj
    by_cases hlt : j < n
    · have hlt' : (j : Int) < n := by omega
      have hb8 : (j : Int) < 8 := by omega
      have hjl : j < L.length := by rw [HN.out]; exact hlt
      obtain ⟨Z, hb, hZ8, hZ⟩ := H.out.blk
      have hz : L[j]? = some L[j] := List.getElem?_eq_getElem hjl
      have q0 := robj_cell hb ((hZ j hjl).trans hz)
      generalize hzz : L[j] = z at hz q0
      have hdr := drop_ring b most j L _ H.out hjl
      have HZ := Lib.hid hz
      clear hb hZ8 hZ hzz hz hjl
      by_cases hxz : z = x
      · have hxz' : (z == x) = true := by simp [hxz]
        have HX := Lib.hid hxz
        clear hxz
        go_wp2_with fail
        refine hdr.mono ?_
        clear hdr
        rintro r w2 ⟨rfl, h2, h3⟩
        have H2 := Lib.hid h2
        have H3 := Lib.hid h3
        clear h2 h3
        go_wp2
        go_ret
        have hat := HZ.out
        rw [HX.out] at hat
        refine ⟨ret_bool (by simp [List.mem_of_getElem? hat]), H2.out, ?_⟩
        rw [erase_at hat HNO.out]
        exact H3.out
      · have hxz' : (z == x) = false := by simp [hxz]
        have HX := Lib.hid hxz
        clear hxz hdr
        go_wp2
        go_roundg (n - (j + 1))
        case measure => have := HJ.out; omega
        case rel =>
          refine ⟨j + 1, by omega, by simp, ?_, rfl⟩
          have hlt := (List.getElem?_eq_some_iff.1 HZ.out).1
          have he := (List.getElem?_eq_some_iff.1 HZ.out).2
          rw [List.take_succ_eq_append_getElem hlt, he]
          intro hm
          rcases List.mem_append.1 hm with hm | hm
          · exact HNO.out hm
          · simp at hm; exact HX.out hm.symm
    · have hlt' : ¬ (j : Int) < n := by omega
      go_wp2
      go_ret
      have hno : x ∉ L := by
        have := HNO.out
        rwa [List.take_of_length_le (by rw [HN.out]; omega)] at this
      refine ⟨ret_bool (by simp [hno]), Frm.refl _ _, ?_⟩
      rw [List.erase_of_not_mem hno]
      exact H.out
theorem remove_nil (x : Int) (w : World) : Calls Tryz.prog 142 #[.pointer none, .int .i64 x] w fun r w' => r = .returned (.bool false) ∧ w' = w := by
  go_enter Tryz.func142, Tryz.ntmps142
  go_wp2_with fail
  refine (len_nil w).mono ?_
  rintro r w1 ⟨rfl, rfl⟩
  go_wp2
  refine wp_loop_rounds 1 ?_
  repeat any_goals (rw [rounds_succ]; go_wp2)
  all_goals (go_ret; exact ⟨rfl, rfl⟩)

set_option maxHeartbeats 1000000 in
theorem list_ring (b most : Nat) (L : List Int) (w : World) (h : Rng w b most L) :
    Calls Tryz.prog 115 #[.pointer (some ⟨b, 0, none⟩)] w fun r w' => ∃ v, r = .returned v ∧ Ints w' w.heap.size v L ∧ Below w.heap.size w w' := by
  have hf := len_ring b most L w h
  obtain ⟨n, hn⟩ : ∃ n, L.length = n := ⟨_, rfl⟩
  rw [hn] at hf
  have hn8 : n ≤ 8 := by have := h.le; have := h.le8; omega
  have H := Lib.hid h
  have HN := Lib.hid hn
  clear h hn
  go_enter Tryz.func115, Tryz.ntmps115
  go_wp2_with fail
  refine hf.mono ?_
  clear hf
  rintro r w1 ⟨rfl, rfl⟩
  go_wp2
  go_loopg [3, 7] n (fun k v3 v7 wr => ∃ j : Nat, j + k = n ∧ v7 = .int .i64 j ∧ Ints wr w1.heap.size v3 (L.take j) ∧ Below w1.heap.size w1 wr)
  case atStart => exact ⟨0, by omega, rfl, Ints.nil _ _, Below.refl _ _⟩
  case round =>
    obtain ⟨j, hj, rfl, hi, hbl⟩ := hrel
    have HJ := Lib.hid hj
    have HI := Lib.hid hi
    have HBL := Lib.hid hbl
    by_cases hlt : j < n
    · have hlt' : (j : Int) < n := by omega
      have hb8 : (j : Int) < 8 := by omega
      have hjl : j < L.length := by rw [HN.out]; exact hlt
      obtain ⟨Z, hb, hZ8, hZ⟩ := (H.out.below hbl).blk
      have hz : L[j]? = some L[j] := List.getElem?_eq_getElem hjl
      have q0 := robj_cell hb ((hZ j hjl).trans hz)
      have hwz := H.out.wf L[j] (List.getElem_mem hjl)
      generalize hzz : L[j] = z at hz q0 hwz
      have HZ := Lib.hid hz
      have HWZ := Lib.hid hwz
      clear hb hZ8 hZ hzz hz hi hbl hj hwz hjl
      go_wp2_with (first
        | (at_builtin
           refine wpList_app (base := w1.heap.size) rfl (.tmp 10) (.tmp 17) rfl rfl rfl (HI.out.alloc _) (row_one wr z HWZ.out) rfl (by rw [List.length_take]; omega) (by have := HBL.out.size; simp; omega) ?_
           intro v' w' own' gr' _
           have OWN := Lib.hid own'
           have GR := Lib.hid gr'
           clear own' gr'))
      go_roundg (n - (j + 1))
      case measure => have := HJ.out; omega
      case rel =>
        refine ⟨j + 1, by omega, by simp, ?_, ?_⟩
        · have hlt := (List.getElem?_eq_some_iff.1 HZ.out).1
          have he := (List.getElem?_eq_some_iff.1 HZ.out).2
          rw [List.take_succ_eq_append_getElem hlt, he]
          exact OWN.out
        · have h1 := HBL.out.alloc (o := .cells #[.int .i64 z] 3) HBL.out.size
          exact h1.trans (grown_below GR.out h1.size HI.out.low)
    · have hlt' : ¬ (j : Int) < n := by omega
      clear hi hbl hj
      go_wp2
      go_ret
      refine ⟨_, rfl, ?_, HBL.out⟩
      have := HI.out
      rwa [List.take_of_length_le (by rw [HN.out]; omega)] at this
theorem list_nil (w : World) : Calls Tryz.prog 115 #[.pointer none] w fun r w' => r = .returned (.slice none 0 0) ∧ w' = w := by
  go_enter Tryz.func115, Tryz.ntmps115
  go_wp2_with fail
  refine (len_nil w).mono ?_
  rintro r w1 ⟨rfl, rfl⟩
  go_wp2
  refine wp_loop_rounds 1 ?_
  repeat any_goals (rw [rounds_succ]; go_wp2)
  all_goals (go_ret; exact ⟨rfl, rfl⟩)
end Go.Proofs.YtgnccpmkdgfjeaaGreat

namespace Go.Proofs.YtgnccpmkdgfjeaaGreat
set_option linter.unusedVariables false
open Go.ChangeShapes Go.WideShapes Go.ChangeAt Go.RowKit

theorem ints_empty (w : World) : Ints (w.alloc (.cells #[] 3)) w.heap.size (.slice (some ⟨w.heap.size, 0, none⟩) 0 0) [] := own_new (Has.new _ rfl) (Nat.le_refl _) rfl (by simp) (by simp) rfl
theorem wf_of {n : Int} (h : (Lit.int .i64 n).wf = true) : wf64 n := by have := bounds_i64 h; exact ⟨by omega, by omega⟩

theorem take_next {zs : List Int} {j : Nat} (h : j < zs.length) : zs.take (j + 1) = zs.take j ++ [zs.getD j 0] := by
  rw [List.take_succ_eq_append_getElem h]; simp [List.getD, h]
theorem getD_mem {zs : List Int} {j : Nat} (h : j < zs.length) : zs.getD j 0 ∈ zs := by simp [List.getD, h]

end Go.Proofs.YtgnccpmkdgfjeaaGreat

namespace Go.Proofs.YtgnccpmkdgfjeaaGreat
set_option linter.unusedVariables false
open Go.ChangeShapes Go.WideShapes Go.ChangeAt Go.RowKit

theorem Row.tail {w : World} {b off m c : Nat} {x : Int} {l : List Int} (h : Row .i64 w (some ⟨b, off, none⟩) (m + 1) (x :: l)) (hl : l.length = m) (hc : m ≤ c) : Row .i64 w (if c = 0 then some ⟨b, off, none⟩ else some ⟨b, off + 1, none⟩) m l := by
  obtain ⟨h1, h2, h3, h4⟩ := h
  refine ⟨by omega, by omega, ?_, fun z hz => h4 z (by simp [hz])⟩
  by_cases hm : m = 0
  · exact .inl hm
  · rw [if_neg (by omega)]
    rcases h3 with h0 | ⟨b', off', e, hcs⟩
    · omega
    · injection e with e
      injection e with e1 e2
      subst e1 e2
      refine .inr ⟨b, off + 1, rfl, fun j hj => ?_⟩
      have := hcs (j + 1) (by simp; omega)
      rw [Nat.add_assoc, Nat.add_comm 1 j, this]
      simp [List.getD]
set_option maxHeartbeats 1000000 in
theorem rremove_any (A : Option Addr) (n c : Nat) (x : Int) (zs : List Int) (w : World) (hr : Row .i64 w A n zs) (hl : zs.length = n) (hn : n ≤ 1000) :
    Calls Tryz.prog 153 #[.slice A n c, .int .i64 x] w fun r w' => ∃ v, r = .returned (.tuple #[v, .bool (decide (x ∈ zs))]) ∧ Ints w' w.heap.size v (zs.erase x) ∧ Below w.heap.size w w' := by
  have HR := Lib.hid hr
  have HL := Lib.hid hl
  clear hr hl
  go_enter Tryz.func153, Tryz.ntmps153
  go_wp2
  go_loopg [6, 7, 8] n (fun k v6 v7 v8 wr => ∃ j : Nat, j + k = n ∧ v8 = .int .i64 j ∧ v7 = .bool (decide (x ∈ zs.take j)) ∧ Ints wr w.heap.size v6 ((zs.take j).erase x) ∧ Below w.heap.size w wr)
  case atStart => exact ⟨0, by omega, rfl, by simp, Ints.nil _ _, Below.refl _ _⟩
  case round =>
    obtain ⟨j, hj, rfl, rfl, hi, hbl⟩ := hrel
    have HJ := Lib.hid hj
    have HI := Lib.hid hi
    have HBL := Lib.hid hbl
    by_cases hlt : j < n
    · have hlt' : (j : Int) < n := by omega
      obtain ⟨b, off, rfl, q0⟩ := (HR.out.later hbl).at_ hlt
      have hwz := wf_of (wf_getD HR.out.2.2.2 (j := j) (by rw [HL.out]; exact hlt))
      have htk := take_next (zs := zs) (j := j) (by rw [HL.out]; exact hlt)
      generalize zs.getD j 0 = z at q0 hwz htk
      have HWZ := Lib.hid hwz
      have HTK := Lib.hid htk
      have hlen : ((zs.take j).erase x).length ≤ 1000 := by
        have h1 := List.length_erase_le (a := x) (l := zs.take j)
        rw [List.length_take] at h1
        omega
      have HLEN := Lib.hid hlen
      clear hi hbl hj hwz htk hlen
      by_cases hin : x ∈ zs.take j
      · have hin' : decide (x ∈ zs.take j) = true := by simp [hin]
        rw [hin']
        have HIN := Lib.hid hin
        clear hin hin'
        go_wp2_with (first
          | (at_builtin
             refine wpList_app (base := w.heap.size) rfl (.tmp 25) (.tmp 30) rfl rfl rfl (HI.out.alloc _) (row_one wr z HWZ.out) rfl (by have := HLEN.out; omega) (by have := HBL.out.size; simp; omega) ?_
             intro v' w' own' gr' _
             have OWN := Lib.hid own'
             have GR := Lib.hid gr'
             clear own' gr'))
        go_roundg (n - (j + 1))
        case measure => have := HJ.out; omega
        case rel =>
          refine ⟨j + 1, by omega, by simp, by rw [HTK.out]; simp [HIN.out], ?_, ?_⟩
          · rw [HTK.out, List.erase_append_left _ HIN.out]
            exact OWN.out
          · have h1 := HBL.out.alloc (o := .cells #[.int .i64 z] 3) HBL.out.size
            exact h1.trans (grown_below GR.out h1.size HI.out.low)
      · have hin' : decide (x ∈ zs.take j) = false := by simp [hin]
        rw [hin']
        have HIN := Lib.hid hin
        clear hin hin'
        by_cases hzx : z = x
        · have hzx' : (z == x) = true := by simp [hzx]
          have HZX := Lib.hid hzx
          clear hzx
          go_wp2
          go_roundg (n - (j + 1))
          case measure => have := HJ.out; omega
          case rel =>
            refine ⟨j + 1, by omega, by simp, by rw [HTK.out, HZX.out]; simp, ?_, HBL.out⟩
            rw [HTK.out, HZX.out, List.erase_append_right _ HIN.out]
            have := HI.out
            rw [List.erase_of_not_mem HIN.out] at this
            simpa using this
        · have hzx' : (z == x) = false := by simp [hzx]
          have HZX := Lib.hid hzx
          clear hzx
          go_wp2_with (first
            | (at_builtin
               refine wpList_app (base := w.heap.size) rfl (.tmp 25) (.tmp 30) rfl rfl rfl (HI.out.alloc _) (row_one wr z HWZ.out) rfl (by have := HLEN.out; omega) (by have := HBL.out.size; simp; omega) ?_
               intro v' w' own' gr' _
               have OWN := Lib.hid own'
               have GR := Lib.hid gr'
               clear own' gr'))
          go_roundg (n - (j + 1))
          case measure => have := HJ.out; omega
          case rel =>
            have hno : x ∉ zs.take j ++ [z] := by
              intro hm
              rcases List.mem_append.1 hm with hm | hm
              · exact HIN.out hm
              · simp at hm; exact HZX.out hm.symm
            refine ⟨j + 1, by omega, by simp, by rw [HTK.out]; simp [hno, -List.mem_append], ?_, ?_⟩
            · rw [HTK.out, List.erase_of_not_mem hno]
              have := OWN.out
              rwa [List.erase_of_not_mem HIN.out] at this
            · have h1 := HBL.out.alloc (o := .cells #[.int .i64 z] 3) HBL.out.size
              exact h1.trans (grown_below GR.out h1.size HI.out.low)
    · have hlt' : ¬ (j : Int) < n := by omega
      have hall : zs.take j = zs := List.take_of_length_le (by rw [HL.out]; omega)
      rw [hall] at HI ⊢
      clear hi hbl hj hall
      go_wp2
      go_ret2
      exact ⟨_, rfl, HI.out, HBL.out⟩

set_option maxHeartbeats 1000000 in
theorem has_any (A : Option Addr) (n c : Nat) (x : Int) (zs : List Int) (w : World) (hr : Row .i64 w A n zs) (hl : zs.length = n) :
    Calls Tryz.prog 147 #[.slice A n c, .int .i64 x] w fun r w' => r = .returned (.bool (decide (x ∈ zs))) ∧ w' = w := by
  have HR := Lib.hid hr
  have HL := Lib.hid hl
  have hm := hr.2.1
  unfold maxLen at hm
  clear hr hl
  go_enter Tryz.func147, Tryz.ntmps147
  go_wp2
  go_loopg [5] n (fun k v5 wr => ∃ j : Nat, j + k = n ∧ v5 = .int .i64 j ∧ x ∉ zs.take j ∧ wr = w)
  case atStart => exact ⟨0, by omega, rfl, by simp, rfl⟩
  case round =>
    obtain ⟨j, hj, rfl, hno, rfl⟩ := hrel
    have HJ := Lib.hid hj
    have NO := Lib.hid hno
    clear hj hno
    by_cases hlt : j < n
    · have hlt' : (j : Int) < n := by omega
      obtain ⟨b, off, rfl, q0⟩ := HR.out.at_ hlt
      have hlt2 : j < zs.length := by rw [HL.out]; exact hlt
      have htk := take_next (zs := zs) (j := j) hlt2
      have hmem := getD_mem (zs := zs) (j := j) hlt2
      generalize zs.getD j 0 = z at q0 htk hmem
      have HTK := Lib.hid htk
      have HMEM := Lib.hid hmem
      clear htk hmem hlt2
      by_cases hzx : z = x
      · have hzx' : (z == x) = true := by simp [hzx]
        have HZX := Lib.hid hzx
        clear hzx
        go_wp2
        go_ret
        refine ⟨ret_bool ?_, rfl⟩
        have := HMEM.out
        rw [HZX.out] at this
        simp [this]
      · have hzx' : (z == x) = false := by simp [hzx]
        have HZX := Lib.hid hzx
        clear hzx
        go_wp2
        go_roundg (n - (j + 1))
        case measure => have := HJ.out; omega
        case rel =>
          refine ⟨j + 1, by omega, by simp, ?_, rfl⟩
          rw [HTK.out]
          intro hm
          rcases List.mem_append.1 hm with hm | hm
          · exact NO.out hm
          · simp at hm; exact HZX.out hm.symm
    · have hlt' : ¬ (j : Int) < n := by omega
      go_wp2
      go_ret
      have := NO.out
      rw [List.take_of_length_le (by rw [HL.out]; omega)] at this
      exact ⟨ret_bool (by simp [this]), rfl⟩

end Go.Proofs.YtgnccpmkdgfjeaaGreat

namespace Go.Proofs.YtgnccpmkdgfjeaaGreat
set_option linter.unusedVariables false
set_option maxRecDepth 100000
open Go.ChangeShapes Go.WideShapes Go.ChangeAt Go.RowKit

def hv (h : Hol) : Value := .agg #[.int .i64 h.1, .int .i64 h.2]
def hlit (h : Hol) : Lit := .string (keyBytes [.int .i64 h.1, .int .i64 h.2])
def wfH (h : Hol) : Prop := wf64 h.1 ∧ wf64 h.2
theorem hol_row : (163 : TypeId) < Tryz.prog.types.size := of_decide_eq_true (by kernel_rfl)
theorem hol_keyed : Maps.Keyed Tryz.prog 163 := Maps.Keyed.of_law (deep_law_laid laid_out_k (m := 2) (by omega) hol_row (by kernel_rfl) (by kernel_rfl))
theorem hol_map : Tryz.prog.underlying 180 = some (.map 163 267) := by kernel_rfl
theorem unit_zero (w : World) : (zeroValue 267).run Tryz.prog w = .ok (.agg #[]) w := by kernel_rfl
theorem hol_flat {h : Hol} (hw : wfH h) : Flat [.int .i64, .int .i64] [.int .i64 h.1, .int .i64 h.2] := ⟨⟨h.1, rfl, hw.1.lit⟩, ⟨h.2, rfl, hw.2.lit⟩, trivial⟩
theorem hol_key {h : Hol} (hw : wfH h) : keyOf Tryz.prog 163 (hv h) = some (hlit h) :=
  key_flat (P := Tryz.prog) (ks := [.int .i64, .int .i64]) (by kernel_rfl) (by kernel_rfl) (by kernel_rfl) (by kernel_rfl) (hol_flat hw)
theorem hol_key_inv {v : Value} {kl : Lit} (h : keyOf Tryz.prog 163 v = some kl) : ∃ x, v = hv x ∧ wfH x ∧ kl = hlit x := by
  obtain ⟨cs, rfl, hf⟩ := key_flat_inv (P := Tryz.prog) (ks := [.int .i64, .int .i64]) 4 (by kernel_rfl) (by kernel_rfl) h
  obtain ⟨a, b, rfl, ha, hb⟩ := hf.two
  have hw : wfH (a, b) := ⟨bounds_i64 ha, bounds_i64 hb⟩
  refine ⟨(a, b), rfl, hw, ?_⟩
  have := hol_key hw
  change keyOf Tryz.prog 163 (.agg #[.int .i64 a, .int .i64 b]) = _ at this
  rw [this] at h
  injection h with h
  exact h.symm
theorem hv_inj {a b : Hol} (h : hv a = hv b) : a = b := by
  simp [hv] at h
  exact Prod.ext h.1 h.2
theorem hlit_inj {a b : Hol} (ha : wfH a) (hb : wfH b) (h : hlit a = hlit b) : a = b := hv_inj (hol_keyed.inj (hol_key ha) (h ▸ hol_key hb))
theorem hlit_key {h : Hol} (hw : wfH h) : WideAt.IsKeyLit (hlit h) := hol_keyed.key (hol_key hw)

/-- A map in block m that holds the holders L, each once. -/
structure MapH (w : World) (m : Nat) (L : List Hol) : Prop where
  ex : ∃ D : DataW Unit, w.ownsMap Tryz.prog 163 unitElem m L.length D ∧ Maps.size D = L.length ∧ ∀ h, wfH h → Maps.has D (hlit h) = decide (h ∈ L)
theorem MapH.lt {w : World} {m : Nat} {L : List Hol} (h : MapH w m L) : m < w.heap.size := by obtain ⟨D, h, _⟩ := h.ex; exact h.lt
theorem MapH.keep {w w' : World} {m : Nat} {L : List Hol} (h : MapH w m L) (hk : w'.heap[m]? = w.heap[m]?) : MapH w' m L := by
  obtain ⟨D, h1, h2⟩ := h.ex
  exact ⟨D, ownsMap_keep h1 hk, h2⟩
theorem MapH.obj {w : World} {m : Nat} {L : List Hol} (h : MapH w m L) : ∃ es clock, w.heap[m]? = some (.map es clock) := by
  obtain ⟨D, ⟨es, clock, hb, hr⟩, h2⟩ := h.ex
  exact ⟨es, clock, hb⟩
theorem mapH_new (w : World) : MapH (w.alloc (.map #[] 0)) w.heap.size [] := ⟨.map [], World.ownsMap_made w _ _ _, rfl, fun h _ => by simp [Maps.has]⟩
theorem MapH.look {w : World} {m : Nat} {L : List Hol} (h : MapH w m L) {x : Hol} (hw : wfH x) : (Instr.lookup 180 (.map (some m)) (hv x) true).run Tryz.prog w = .ok (.tuple #[.agg #[], .bool (decide (x ∈ L))]) w := by
  obtain ⟨D, h1, _, h3⟩ := h.ex
  obtain ⟨v, ps, hr, hv⟩ := h1.look_ok hol_keyed hol_map (unit_zero _) (unitElem_mk) (hol_key hw)
  rw [hr, h3 x hw, (unitElem_inv hv).1]
theorem MapH.len {w : World} {m : Nat} {L : List Hol} (h : MapH w m L) (ty : TypeId) : (Builtin.len_ #[180] ty #[.map (some m)]).run Tryz.prog w = .ok (.int .i64 L.length) w := by
  obtain ⟨D, h1, h2, _⟩ := h.ex
  rw [h1.len hol_map, h2]
theorem MapH.store {w : World} {m : Nat} {L : List Hol} (h : MapH w m L) {x : Hol} (hw : wfH x) (hn : x ∉ L) (hlen : L.length < maxLen) :
    ∃ w', (Instr.mapUpdate 180 (.map (some m)) (hv x) (.agg #[])).run Tryz.prog w = .ok () w' ∧ MapH w' m (insH x L) ∧ w.mapTurned w' m := by
  obtain ⟨D, h1, h2, h3⟩ := h.ex
  obtain ⟨w', hr, ho, ht⟩ := h1.store hol_keyed hol_map hlen (hol_key hw) unitElem_mk
  have hD := h1.tidy hol_keyed
  have hnot : Maps.has D (hlit x) = false := by rw [h3 x hw]; simp [hn]
  have hsz : Maps.size (D.put (hlit x) (.agg [])) = (insH x L).length := by
    rw [Maps.size_put hD, hnot, length_insH, h2]; rfl
  refine ⟨w', hr, ⟨_, hsz ▸ lower_map ho, hsz, fun y hy => ?_⟩, ht⟩
  by_cases hc : y = x
  · subst hc
    rw [Maps.has_put_same hD.isMap (hlit_key hw)]
    simp [mem_insH]
  · have hne : hlit y ≠ hlit x := fun e => hc (hlit_inj hy hw e)
    rw [Maps.has_put_other hne, h3 y hy]
    simp [mem_insH, hc]
theorem MapH.drop {w : World} {m : Nat} {L : List Hol} (h : MapH w m L) {x : Hol} (hw : wfH x) (hm : x ∈ L) (hd : L.Nodup) (ty : TypeId) :
    ∃ w', (Builtin.delete_ #[180, 163] ty #[.map (some m), hv x]).run Tryz.prog w = .ok (.tuple #[]) w' ∧ MapH w' m (outH x L) ∧ w.mapTurned w' m := by
  obtain ⟨D, h1, h2, h3⟩ := h.ex
  obtain ⟨w', hr, ho, ht⟩ := h1.drop hol_keyed hol_map (hol_key hw) ty
  have hD := h1.tidy hol_keyed
  have hsz : Maps.size (D.del (hlit x)) = (outH x L).length := by
    have h5 := Maps.size_del (k := hlit x) hD
    rw [h3 x hw] at h5
    have h6 := length_outH hd hm
    simp [hm] at h5
    omega
  refine ⟨w', hr, ⟨_, hsz ▸ lower_map ho, hsz, fun y hy => ?_⟩, ht⟩
  by_cases hc : y = x
  · subst hc
    rw [Maps.has_del_same]
    simp [mem_outH]
  · have hne : hlit y ≠ hlit x := fun e => hc (hlit_inj hy hw e)
    rw [Maps.has_del_other hne, h3 y hy]
    simp [mem_outH, hc]
end Go.Proofs.YtgnccpmkdgfjeaaGreat

namespace Go.Proofs.YtgnccpmkdgfjeaaGreat
set_option linter.unusedVariables false
open Go.ChangeShapes Go.WideShapes Go.ChangeAt Go.RowKit

abbrev psobj (most m : Nat) : Obj := .cells #[.int .i64 most, .map (some m)] 182
abbrev phobj (h : Hol) : Obj := .cells #[.int .i64 h.1, .int .i64 h.2] 163
/-- A set in block b, its map in block m: so many permits, and who holds them, rising. -/
structure Prm (w : World) (b m most : Nat) (L : List Hol) : Prop where
  blk : w.heap[b]? = some (psobj most m)
  mp : MapH w m L
  rise : Rise L
  le : L.length ≤ most
  le8 : most ≤ 8
  wf : ∀ h ∈ L, wfH h
section
variable {w w' : World} {b m most : Nat} {L L' : List Hol}
theorem Prm.keep (h : Prm w b m most L) (hb : w'.heap[b]? = w.heap[b]?) (hm : w'.heap[m]? = w.heap[m]?) : Prm w' b m most L := ⟨hb.trans h.blk, h.mp.keep hm, h.rise, h.le, h.le8, h.wf⟩
theorem Prm.below (h : Prm w b m most L) (hb : Below w.heap.size w w') : Prm w' b m most L := h.keep (hb.block b (heap_lt h.blk)) (hb.block m h.mp.lt)
theorem Prm.ali (h : Prm w b m most L) (ha : Ali w w') : Prm w' b m most L := h.below (ali_below ha)
theorem Prm.alloc (h : Prm w b m most L) (o : Obj) : Prm (w.alloc o) b m most L := h.below (below_alloc w o)
theorem Prm.cells (h : Prm w b m most L) : w.cell? ⟨b, 0, none⟩ = some (.int .i64 most) ∧ w.cell? ⟨b, 1, none⟩ = some (.map (some m)) := ⟨by rw [cell_of h.blk]; rfl, by rw [cell_of h.blk]; rfl⟩
/-- A block of cells is not the map's. -/
theorem Prm.other (h : Prm w b m most L) {j : Nat} {cs : Array Value} {t : TypeId} {f : Nat × Nat} (hj : w.heap[j]? = some (.cells cs t f)) : j ≠ m := by
  obtain ⟨es, c, hm⟩ := h.mp.obj
  rintro rfl
  rw [hm] at hj
  cases hj
theorem Prm.kept (h : Prm w b m most L) (hf : Frm (· = m) w w') {j : Nat} {cs : Array Value} {t : TypeId} {f : Nat × Nat} (hj : w.heap[j]? = some (.cells cs t f)) : w'.heap[j]? = some (.cells cs t f) := by
  rw [hf.block j (heap_lt hj) (h.other hj)]; exact hj
theorem Prm.after (h : Prm w b m most L) (hf : Frm (· = m) w w') (hm : MapH w' m L') (hr : Rise L') (hl : L'.length ≤ most) (hw : ∀ x ∈ L', wfH x) : Prm w' b m most L' := ⟨h.kept hf h.blk, hm, hr, hl, h.le8, hw⟩
end

theorem new_prm (most : Nat) (w : World) (h : most ≤ 8) :
    Calls Tryz.prog 40 #[.int .i64 most] w fun r w' => ∃ b, r = .returned (.pointer (some ⟨b, 0, none⟩)) ∧ ∃ m, Prm w' b m most [] ∧ Below w.heap.size w w' ∧ w.heap.size ≤ b ∧ w.heap.size ≤ m := by
  have h1 : ¬ (most : Int) < 0 := by omega
  have h2 : ¬ (8 : Int) < (most : Int) := by omega
  have hr : Prm ((w.alloc (.map #[] 0)).alloc (psobj most w.heap.size)) (w.heap.size + 1) w.heap.size most [] :=
    ⟨by have := heap_alloc_at (w.alloc (.map #[] 0)) (psobj most w.heap.size); simpa using this, (mapH_new w).keep (heap_alloc_lt (by simp)), rise_nil, by simp, h, by simp⟩
  have hb : Below w.heap.size w ((w.alloc (.map #[] 0)).alloc (psobj most w.heap.size)) := ((Below.refl _ _).alloc (Nat.le_refl _) _).alloc (by simp) _
  have HR := Lib.hid hr
  have HB := Lib.hid hb
  clear hr hb
  have hmm := @run_makeMap Tryz.prog
  go_enter Tryz.func40, Tryz.ntmps40
  go_wp2
  go_ret
  exact ⟨w.heap.size + 1, rfl, w.heap.size, HR.out, HB.out, by omega, Nat.le_refl _⟩
theorem new_bad (most : Int) (w : World) (h : most < 0 ∨ 8 < most) :
    Calls Tryz.prog 40 #[.int .i64 most] w fun r w' => r = .returned (.pointer none) ∧ w' = w := by
  by_cases h1 : most < 0
  · go_enter Tryz.func40, Tryz.ntmps40
    go_wp2
    go_ret
    exact ⟨rfl, rfl⟩
  · have h2 : 8 < most := by omega
    go_enter Tryz.func40, Tryz.ntmps40
    go_wp2
    go_ret
    exact ⟨rfl, rfl⟩

theorem used_prm (b m most : Nat) (L : List Hol) (w : World) (h : Prm w b m most L) :
    Calls Tryz.prog 57 #[.pointer (some ⟨b, 0, none⟩)] w fun r w' => r = .returned (.int .i64 L.length) ∧ w' = w := by
  obtain ⟨c0, c1⟩ := h.cells
  have hl := h.mp.len
  clear h
  go_enter Tryz.func57, Tryz.ntmps57
  go_wp2
  go_ret
  exact ⟨rfl, rfl⟩
theorem used_none (w : World) : Calls Tryz.prog 57 #[.pointer none] w fun r w' => r = .returned (.int .i64 0) ∧ w' = w := by
  go_enter Tryz.func57, Tryz.ntmps57
  go_wp2
  go_ret
  exact ⟨rfl, rfl⟩
theorem room_prm (b m most : Nat) (L : List Hol) (w : World) (h : Prm w b m most L) :
    Calls Tryz.prog 138 #[.pointer (some ⟨b, 0, none⟩)] w fun r w' => r = .returned (.bool (decide (L.length < most))) ∧ Ali w w' := by
  obtain ⟨c0, c1⟩ := h.cells
  have hl : ∀ ty n, (Builtin.len_ #[180] ty #[.map (some m)]).run Tryz.prog (w.drewN n) = .ok (.int .i64 L.length) (w.drewN n) := fun ty n => (h.mp.keep (w' := w.drewN n) rfl).len ty
  clear h
  go_enter Tryz.func138, Tryz.ntmps138
  go_wp2
  go_quiet (fail)
  go_wp2
  go_ret
  exact ⟨rfl, drewN_ali _ _⟩
theorem room_none (w : World) : Calls Tryz.prog 138 #[.pointer none] w fun r w' => r = .returned (.bool false) ∧ Ali w w' := by
  go_enter Tryz.func138, Tryz.ntmps138
  go_wp2
  go_quiet (fail)
  go_wp2
  go_ret
  exact ⟨rfl, drewN_ali _ _⟩
end Go.Proofs.YtgnccpmkdgfjeaaGreat

namespace Go.Proofs.YtgnccpmkdgfjeaaGreat
set_option linter.unusedVariables false
open Go.ChangeShapes Go.WideShapes Go.ChangeAt Go.RowKit

theorem hcells {w : World} {j : Nat} {h : Hol} (hj : w.heap[j]? = some (phobj h)) : w.cell? ⟨j, 0, none⟩ = some (.int .i64 h.1) ∧ w.cell? ⟨j, 1, none⟩ = some (.int .i64 h.2) := ⟨by rw [cell_of hj]; rfl, by rw [cell_of hj]; rfl⟩

set_option maxHeartbeats 1000000 in
theorem holds_grow (b m most : Nat) (L : List Hol) (x y : Int) (w : World) (h : Prm w b m most L) (hx : wfH (x, y)) :
    Calls Tryz.prog 141 #[.pointer (some ⟨b, 0, none⟩), .agg #[.int .i64 x, .int .i64 y]] w fun r w' => r = .returned (.bool (decide ((x, y) ∈ L))) ∧ ∃ q os, w' = Sort.grow (w.drewN q) os := by
  have hgr : ∃ q os, ((w.alloc (phobj (x, y))).alloc (.cells #[] 267)).drew = Sort.grow (w.drewN q) os := ⟨1, _, by rw [Sort.alloc_eq_grow, Sort.alloc_eq_grow, Sort.grow_grow]; rfl⟩
  have h1 := h.alloc (phobj (x, y))
  have hb1 := below_alloc w (phobj (x, y))
  have hd1 := heap_alloc_at w (phobj (x, y))
  generalize hW : w.alloc (phobj (x, y)) = w1 at *
  have h2 := h1.alloc (.cells #[] 267)
  have hb2 := below_alloc w1 (.cells #[] 267)
  have hd2 := kb_alloc hd1 (.cells #[] 267)
  generalize hW2 : w1.alloc (.cells #[] 267) = w2 at *
  obtain ⟨c0, c1⟩ := h1.cells
  obtain ⟨c0', c1'⟩ := h2.cells
  obtain ⟨d0, d1⟩ := hcells hd1
  obtain ⟨d0', d1'⟩ := hcells hd2
  have hl1 := (h1.mp.keep (w' := w1.drew) rfl).look hx
  have hl2 := (h2.mp.keep (w' := w2.drew) rfl).look hx
  unfold hv at hl1 hl2
  have HB := Lib.hid hgr
  generalize decide ((x, y) ∈ L) = t at hl1 hl2 ⊢
  clear h1 h hb1 h2 hb2 hd1 hd2 hgr
  go_enter Tryz.func141, Tryz.ntmps141
  go_wp2
  go_region
  all_goals go_wp2
  all_goals go_ret
  all_goals exact ⟨rfl, HB.out⟩
theorem holds_prm (b m most : Nat) (L : List Hol) (x y : Int) (w : World) (h : Prm w b m most L) (hx : wfH (x, y)) :
    Calls Tryz.prog 141 #[.pointer (some ⟨b, 0, none⟩), .agg #[.int .i64 x, .int .i64 y]] w fun r w' => r = .returned (.bool (decide ((x, y) ∈ L))) ∧ Below w.heap.size w w' := by
  refine (holds_grow b m most L x y w h hx).mono ?_
  rintro r w' ⟨rfl, q, os, rfl⟩
  exact ⟨rfl, grow_below _ _ _⟩
theorem holds_none (x y : Int) (w : World) : Calls Tryz.prog 141 #[.pointer none, .agg #[.int .i64 x, .int .i64 y]] w fun r w' => r = .returned (.bool false) ∧ Below w.heap.size w w' := by
  have HB := Lib.hid (below_alloc w (phobj (x, y)))
  go_enter Tryz.func141, Tryz.ntmps141
  go_wp2
  go_ret
  exact ⟨rfl, HB.out⟩

set_option maxHeartbeats 1000000 in
theorem take_no (b m most : Nat) (L : List Hol) (x y : Int) (w : World) (h : Prm w b m most L) (hx : wfH (x, y)) (hno : ¬ L.length < most ∨ (x, y) ∈ L) :
    Calls Tryz.prog 131 #[.pointer (some ⟨b, 0, none⟩), .agg #[.int .i64 x, .int .i64 y]] w fun r w' => r = .returned (.bool false) ∧ Below w.heap.size w w' := by
  have h1 := h.alloc (phobj (x, y))
  have hb1 := below_alloc w (phobj (x, y))
  have hd1 := heap_alloc_at w (phobj (x, y))
  generalize hW : w.alloc (phobj (x, y)) = w1 at *
  have hrm := room_prm b m most L w1 h1
  have H1 := Lib.hid h1
  have HB := Lib.hid hb1
  have HD := Lib.hid hd1
  have HNO := Lib.hid hno
  clear h h1 hb1 hd1 hno
  by_cases hr : L.length < most
  · rw [decide_eq_true hr] at hrm
    have hin : (x, y) ∈ L := by rcases HNO.out with a | a; exact (a hr).elim; exact a
    have HIN := Lib.hid hin
    clear hr hin
    go_enter Tryz.func131, Tryz.ntmps131
    go_wp2_with fail
    refine hrm.mono ?_
    clear hrm
    rintro r w2 ⟨rfl, ha⟩
    have h2 := H1.out.ali ha
    have hho := holds_prm b m most L x y w2 h2 hx
    rw [decide_eq_true HIN.out] at hho
    obtain ⟨d0, d1⟩ := hcells (kb_below HD.out (ali_below ha))
    have HB2 := Lib.hid (below_ali HB.out ha)
    clear h2 ha
    go_wp2_with fail
    refine hho.mono ?_
    clear hho
    rintro r w3 ⟨rfl, hb3⟩
    have HB3 := Lib.hid (HB2.out.trans (hb3.mono HB2.out.size))
    clear hb3 d0 d1
    go_wp2
    go_ret
    exact ⟨rfl, HB3.out⟩
  · rw [decide_eq_false hr] at hrm
    clear hr
    go_enter Tryz.func131, Tryz.ntmps131
    go_wp2_with fail
    refine hrm.mono ?_
    clear hrm
    rintro r w2 ⟨rfl, ha⟩
    have HB2 := Lib.hid (below_ali HB.out ha)
    clear ha
    go_wp2
    go_ret
    exact ⟨rfl, HB2.out⟩

theorem frm_turned {w w' : World} {m : Nat} (h : w.drew.mapTurned w' m) : Frm (· = m) w w' := (Frm.of_ali (F := (· = m)) (drew_ali w)).trans (Frm.of_grown (F := (· = m)) h.grown rfl) (fun _ _ h => h)
set_option maxHeartbeats 1000000 in
theorem take_yes (b m most : Nat) (L : List Hol) (x y : Int) (w : World) (h : Prm w b m most L) (hx : wfH (x, y)) (hr : L.length < most) (hn : (x, y) ∉ L) :
    Calls Tryz.prog 131 #[.pointer (some ⟨b, 0, none⟩), .agg #[.int .i64 x, .int .i64 y]] w fun r w' => r = .returned (.bool true) ∧ Frm (· = m) w w' ∧ Prm w' b m most (insH (x, y) L) := by
  have h1 := h.alloc (phobj (x, y))
  have hb1 := below_alloc w (phobj (x, y))
  have hd1 := heap_alloc_at w (phobj (x, y))
  generalize hW : w.alloc (phobj (x, y)) = w1 at *
  have hrm := room_prm b m most L w1 h1
  rw [decide_eq_true hr] at hrm
  have H1 := Lib.hid h1
  have HB := Lib.hid hb1
  have HD := Lib.hid hd1
  have HN := Lib.hid hn
  have HR := Lib.hid hr
  clear h h1 hb1 hd1 hn hr
  go_enter Tryz.func131, Tryz.ntmps131
  go_wp2_with fail
  refine hrm.mono ?_
  clear hrm
  rintro r w2 ⟨rfl, ha⟩
  have h2 := H1.out.ali ha
  have hho := holds_prm b m most L x y w2 h2 hx
  rw [decide_eq_false HN.out] at hho
  have hd2 := kb_below HD.out (ali_below ha)
  obtain ⟨d0, d1⟩ := hcells hd2
  have HB2 := Lib.hid (below_ali HB.out ha)
  have H2 := Lib.hid h2
  have HD2 := Lib.hid hd2
  clear h2 ha hd2
  go_wp2_with fail
  refine hho.mono ?_
  clear hho
  rintro r w3 ⟨rfl, hb3⟩
  have HB3 := Lib.hid (HB2.out.trans (hb3.mono HB2.out.size))
  have h3 := H2.out.below hb3
  have hd3 := kb_below HD2.out hb3
  clear d0 d1
  obtain ⟨c0, c1⟩ := h3.cells
  obtain ⟨d0, d1⟩ := hcells hd3
  have h8 := h3.le8
  have hlt := HR.out
  obtain ⟨w4, hst, hm4, ht4⟩ := MapH.store (w := w3.drew) (h3.mp.keep rfl) hx HN.out (by unfold maxLen; omega)
  unfold hv at hst
  have hf4 := frm_turned ht4
  have hp4 := h3.after hf4 hm4 (rise_insH h3.rise HN.out) (by rw [length_insH]; omega) (fun z hz => by rcases mem_insH.1 hz with rfl | hz; exact hx; exact h3.wf z hz)
  have HF : Hid (Frm (· = m) w w4) := Lib.hid ((Frm.of_below (F := (· = m)) HB3.out).trans hf4 (fun _ _ h => h))
  have HP := Lib.hid hp4
  clear hb3 h3 hd3 hm4 ht4 hf4 hp4 h8 hlt
  go_wp2
  go_region
  all_goals go_wp2
  all_goals go_ret
  all_goals exact ⟨rfl, HF.out, HP.out⟩
theorem take_none (x y : Int) (w : World) : Calls Tryz.prog 131 #[.pointer none, .agg #[.int .i64 x, .int .i64 y]] w fun r w' => r = .returned (.bool false) ∧ Below w.heap.size w w' := by
  have HB := Lib.hid (below_alloc w (phobj (x, y)))
  have hrm := room_none (w.alloc (phobj (x, y)))
  go_enter Tryz.func131, Tryz.ntmps131
  go_wp2_with fail
  refine hrm.mono ?_
  clear hrm
  rintro r w2 ⟨rfl, ha⟩
  have HB2 := Lib.hid (below_ali HB.out ha)
  clear ha
  go_wp2
  go_ret
  exact ⟨rfl, HB2.out⟩

set_option maxHeartbeats 1000000 in
theorem free_no (b m most : Nat) (L : List Hol) (x y : Int) (w : World) (h : Prm w b m most L) (hx : wfH (x, y)) (hno : (x, y) ∉ L) :
    Calls Tryz.prog 79 #[.pointer (some ⟨b, 0, none⟩), .agg #[.int .i64 x, .int .i64 y]] w fun r w' => r = .returned (.bool false) ∧ Below w.heap.size w w' := by
  have h1 := h.alloc (phobj (x, y))
  have hb1 := below_alloc w (phobj (x, y))
  have hd1 := heap_alloc_at w (phobj (x, y))
  generalize hW : w.alloc (phobj (x, y)) = w1 at *
  have hho := holds_prm b m most L x y w1 h1 hx
  rw [decide_eq_false hno] at hho
  obtain ⟨d0, d1⟩ := hcells hd1
  have HB := Lib.hid hb1
  clear h h1 hb1 hd1 hno
  go_enter Tryz.func79, Tryz.ntmps79
  go_wp2_with fail
  refine hho.mono ?_
  clear hho
  rintro r w2 ⟨rfl, hb2⟩
  have HB2 := Lib.hid (HB.out.trans (hb2.mono HB.out.size))
  clear hb2 d0 d1
  go_wp2
  go_ret
  exact ⟨rfl, HB2.out⟩
set_option maxHeartbeats 1000000 in
theorem free_yes (b m most : Nat) (L : List Hol) (x y : Int) (w : World) (h : Prm w b m most L) (hx : wfH (x, y)) (hin : (x, y) ∈ L) :
    Calls Tryz.prog 79 #[.pointer (some ⟨b, 0, none⟩), .agg #[.int .i64 x, .int .i64 y]] w fun r w' => r = .returned (.bool true) ∧ Frm (· = m) w w' ∧ Prm w' b m most (outH (x, y) L) := by
  have h1 := h.alloc (phobj (x, y))
  have hb1 := below_alloc w (phobj (x, y))
  have hd1 := heap_alloc_at w (phobj (x, y))
  generalize hW : w.alloc (phobj (x, y)) = w1 at *
  have hho := holds_prm b m most L x y w1 h1 hx
  rw [decide_eq_true hin] at hho
  obtain ⟨d0, d1⟩ := hcells hd1
  have H1 := Lib.hid h1
  have HB := Lib.hid hb1
  have HD := Lib.hid hd1
  have HIN := Lib.hid hin
  clear h h1 hb1 hd1 hin
  go_enter Tryz.func79, Tryz.ntmps79
  go_wp2_with fail
  refine hho.mono ?_
  clear hho
  rintro r w3 ⟨rfl, hb3⟩
  have HB3 := Lib.hid (HB.out.trans (hb3.mono HB.out.size))
  have h3 := H1.out.below hb3
  have hd3 := kb_below HD.out hb3
  clear d0 d1
  obtain ⟨c0, c1⟩ := h3.cells
  obtain ⟨d0, d1⟩ := hcells hd3
  obtain ⟨w4, hst, hm4, ht4⟩ := MapH.drop (w := w3.drew) (h3.mp.keep rfl) hx HIN.out h3.rise.nodup 0
  unfold hv at hst
  have hf4 := frm_turned ht4
  have hp4 := h3.after hf4 hm4 (rise_outH h3.rise) (Nat.le_trans (length_outH_le _ _) h3.le) (fun z hz => h3.wf z (mem_outH.1 hz).1)
  have HF : Hid (Frm (· = m) w w4) := Lib.hid ((Frm.of_below (F := (· = m)) HB3.out).trans hf4 (fun _ _ h => h))
  have HP := Lib.hid hp4
  clear hb3 h3 hd3 hm4 ht4 hf4 hp4
  go_wp2
  go_region
  all_goals go_wp2
  all_goals go_ret
  all_goals exact ⟨rfl, HF.out, HP.out⟩
theorem free_none (x y : Int) (w : World) : Calls Tryz.prog 79 #[.pointer none, .agg #[.int .i64 x, .int .i64 y]] w fun r w' => r = .returned (.bool false) ∧ Below w.heap.size w w' := by
  have hb1 := below_alloc w (phobj (x, y))
  have hd1 := heap_alloc_at w (phobj (x, y))
  generalize hW : w.alloc (phobj (x, y)) = w1 at *
  have hho := holds_none x y w1
  obtain ⟨d0, d1⟩ := hcells hd1
  have HB := Lib.hid hb1
  clear hb1 hd1
  go_enter Tryz.func79, Tryz.ntmps79
  go_wp2_with fail
  refine hho.mono ?_
  clear hho
  rintro r w2 ⟨rfl, hb2⟩
  have HB2 := Lib.hid (HB.out.trans (hb2.mono HB.out.size))
  clear hb2 d0 d1
  go_wp2
  go_ret
  exact ⟨rfl, HB2.out⟩
end Go.Proofs.YtgnccpmkdgfjeaaGreat

namespace Go.Proofs.YtgnccpmkdgfjeaaGreat
set_option linter.unusedVariables false
open Go.ChangeShapes Go.WideShapes Go.ChangeAt Go.RowKit

/-- A bulk's other blocks: the permits, their map, the queue. -/
structure Fb where
  pb : Nat
  m : Nat
  rb : Nat
/-- Those of them that may turn. -/
def Fb.F (f : Fb) (j : Nat) : Prop := j = f.m ∨ j = f.rb
abbrev bulobj (f : Fb) : Obj := .cells #[.pointer (some ⟨f.pb, 0, none⟩), .pointer (some ⟨f.rb, 0, none⟩)] 223
structure Bul (w : World) (b : Nat) (f : Fb) (S : BU) : Prop where
  blk : w.heap[b]? = some (bulobj f)
  prm : Prm w f.pb f.m S.most (hol S.run)
  rng : Rng w f.rb S.que S.wait
  ok : S.Ok
section
variable {w w' : World} {b : Nat} {f : Fb} {S : BU} {L : List Int}
theorem Bul.cells (h : Bul w b f S) : w.cell? ⟨b, 0, none⟩ = some (.pointer (some ⟨f.pb, 0, none⟩)) ∧ w.cell? ⟨b, 1, none⟩ = some (.pointer (some ⟨f.rb, 0, none⟩)) := ⟨by rw [cell_of h.blk]; rfl, by rw [cell_of h.blk]; rfl⟩
theorem Bul.lt (h : Bul w b f S) : b < w.heap.size := heap_lt h.blk
theorem Bul.below (h : Bul w b f S) (hb : Below w.heap.size w w') : Bul w' b f S := ⟨kb_below h.blk hb, h.prm.below hb, h.rng.below hb, h.ok⟩
theorem Bul.ali (h : Bul w b f S) (ha : Ali w w') : Bul w' b f S := h.below (ali_below ha)
theorem Bul.alloc (h : Bul w b f S) (o : Obj) : Bul (w.alloc o) b f S := h.below (below_alloc w o)
/-- Blocks of other kinds stay. -/
theorem Bul.not (h : Bul w b f S) {j : Nat} {cs : Array Value} {t : TypeId} {z : Nat × Nat} (hj : w.heap[j]? = some (.cells cs t z)) (ht : t ≠ 258) : ¬ f.F j := by
  rintro (e | e)
  · exact h.prm.other hj e
  · exact h.rng.other hj ht e
theorem Bul.kept (h : Bul w b f S) (hf : Frm f.F w w') {j : Nat} {cs : Array Value} {t : TypeId} {z : Nat × Nat} (hj : w.heap[j]? = some (.cells cs t z)) (ht : t ≠ 258) : w'.heap[j]? = some (.cells cs t z) := by
  rw [hf.block j (heap_lt hj) (h.not hj ht)]; exact hj
theorem Bul.ints (h : Bul w b f S) (hf : Frm f.F w w') {base : Nat} {v : Value} {zs : List Int} (hi : Ints w base v zs) : Ints w' base v zs :=
  hi.frm hf (fun j hj cs hc => h.not hc (by decide) hj)
theorem Fb.ofM {f : Fb} (hf : Frm (· = f.m) w w') : Frm f.F w w' := hf.mono (fun _ _ e => .inl e)
theorem Fb.ofR {f : Fb} (hf : Frm (· = f.rb) w w') : Frm f.F w w' := hf.mono (fun _ _ e => .inr e)
theorem Bul.m_ne (h : Bul w b f S) : f.rb ≠ f.m := by
  obtain ⟨Z, hz, _⟩ := h.rng.blk
  exact h.prm.other hz
/-- The permits have turned. -/
theorem Bul.afterM (h : Bul w b f S) (hf : Frm (· = f.m) w w') (hp : Prm w' f.pb f.m S.most (hol L)) (ok : BU.Ok ⟨S.most, S.que, L, S.wait⟩) : Bul w' b f ⟨S.most, S.que, L, S.wait⟩ :=
  ⟨h.prm.kept hf h.blk, hp, h.rng.frm hf h.m_ne, ok⟩
/-- The queue has turned. -/
theorem Bul.afterR (h : Bul w b f S) (hf : Frm (· = f.rb) w w') (hr : Rng w' f.rb S.que L) (ok : BU.Ok ⟨S.most, S.que, S.run, L⟩) : Bul w' b f ⟨S.most, S.que, S.run, L⟩ :=
  ⟨h.rng.kept hf h.blk (by decide), h.prm.keep (hf.block _ (heap_lt h.prm.blk) (h.rng.other h.prm.blk (by decide))) (hf.block _ h.prm.mp.lt (fun e => h.m_ne e.symm)), hr, ok⟩
theorem Bul.used (h : Bul w b f S) : (hol S.run).length = S.run.length := length_hol _
theorem BU.Ok.wfr {S : BU} (h : S.Ok) {x : Int} (hx : x ∈ S.run) : wfH (x, 0) := ⟨h.wr x hx, by show -9223372036854775808 ≤ (0 : Int) ∧ _; omega⟩
end
theorem wf_h {x : Int} (hx : wf64 x) : wfH (x, 0) := ⟨hx, by show -9223372036854775808 ≤ (0 : Int) ∧ (0 : Int) ≤ _; omega⟩

theorem holder_any (x : Int) (w : World) : Calls Tryz.prog 118 #[.int .i64 x] w fun r w' => r = .returned (.agg #[.int .i64 x, .int .i64 0]) ∧ Below w.heap.size w w' := by
  go_enter Tryz.func118, Tryz.ntmps118
  go_wp2
  refine bodyPost_ret (v := .agg #[.int .i64 x, .int .i64 0]) (by simp [results, Tryz.results118, go_sem]) rfl ⟨rfl, ?_⟩
  exact below_alloc w _

set_option maxHeartbeats 1000000 in
theorem index_any (A : Option Addr) (n c : Nat) (x : Int) (zs : List Int) (w : World) (hr : Row .i64 w A n zs) (hl : zs.length = n) :
    Calls Tryz.prog 188 #[.slice A n c, .int .i64 x] w fun r w' => ∃ k : Int, r = .returned (.int .i64 k) ∧ (0 ≤ k ↔ x ∈ zs) ∧ w' = w := by
  have HR := Lib.hid hr
  have HL := Lib.hid hl
  have hm := hr.2.1
  unfold maxLen at hm
  clear hr hl
  go_enter Tryz.func188, Tryz.ntmps188
  go_wp2
  go_loopg [8] n (fun k v8 wr => ∃ j : Nat, j + k = n ∧ v8 = .int .i64 j ∧ x ∉ zs.take j ∧ wr = w)
  case atStart => exact ⟨0, by omega, rfl, by simp, rfl⟩
  case round =>
    obtain ⟨j, hj, rfl, hno, rfl⟩ := hrel
    have HJ := Lib.hid hj
    have NO := Lib.hid hno
    clear hj hno
    by_cases hlt : j < n
    · have hlt' : (j : Int) < n := by omega
      obtain ⟨b, off, rfl, q0⟩ := HR.out.at_ hlt
      have hlt2 : j < zs.length := by rw [HL.out]; exact hlt
      have htk := take_next (zs := zs) (j := j) hlt2
      have hmem := getD_mem (zs := zs) (j := j) hlt2
      generalize zs.getD j 0 = z at q0 htk hmem
      have HTK := Lib.hid htk
      have HMEM := Lib.hid hmem
      clear htk hmem hlt2
      by_cases hzx : x = z
      · have hzx' : (x == z) = true := by simp [hzx]
        have HZX := Lib.hid hzx
        clear hzx
        go_wp2
        go_ret
        refine ⟨(j : Int), rfl, ⟨fun _ => ?_, fun _ => by omega⟩, rfl⟩
        rw [HZX.out]
        exact HMEM.out
      · have hzx' : (x == z) = false := by simp [hzx]
        have HZX := Lib.hid hzx
        clear hzx
        go_wp2
        go_roundg (n - (j + 1))
        case measure => have := HJ.out; omega
        case rel =>
          refine ⟨j + 1, by omega, by simp, ?_, rfl⟩
          rw [HTK.out]
          intro hm
          rcases List.mem_append.1 hm with hm | hm
          · exact NO.out hm
          · simp at hm; exact HZX.out hm
    · have hlt' : ¬ (j : Int) < n := by omega
      go_wp2
      go_ret
      have := NO.out
      rw [List.take_of_length_le (by rw [HL.out]; omega)] at this
      exact ⟨-1, rfl, ⟨fun h => by omega, fun h => (this h).elim⟩, rfl⟩
theorem contains_any (A : Option Addr) (n c : Nat) (x : Int) (zs : List Int) (w : World) (hr : Row .i64 w A n zs) (hl : zs.length = n) :
    Calls Tryz.prog 182 #[.slice A n c, .int .i64 x] w fun r w' => r = .returned (.bool (decide (x ∈ zs))) ∧ w' = w := by
  have HI := Lib.hid (index_any A n c x zs w hr hl)
  clear hr hl
  go_enter Tryz.func182, Tryz.ntmps182
  go_wp2_with fail
  refine HI.out.mono ?_
  rintro r w1 ⟨k, rfl, hk, rfl⟩
  have HK := Lib.hid hk
  clear hk HI
  go_wp2
  go_ret
  exact ⟨ret_bool (by rw [decide_eq_decide]; exact HK.out), rfl⟩

theorem busy_bul (b : Nat) (f : Fb) (S : BU) (w : World) (h : Bul w b f S) : Calls Tryz.prog 55 #[.pointer (some ⟨b, 0, none⟩)] w fun r w' => r = .returned (.int .i64 S.run.length) ∧ w = w' := by
  obtain ⟨c0, c1⟩ := h.cells
  have hu := used_prm f.pb f.m S.most (hol S.run) w h.prm
  rw [length_hol] at hu
  have HU := Lib.hid hu
  clear h hu
  go_enter Tryz.func55, Tryz.ntmps55
  go_wp2_with fail
  refine HU.out.mono ?_
  rintro r w1 ⟨rfl, rfl⟩
  go_wp2
  go_ret
  exact ⟨rfl, rfl⟩
theorem busy_none (w : World) : Calls Tryz.prog 55 #[.pointer none] w fun r w' => r = .returned (.int .i64 0) ∧ w = w' := by
  go_enter Tryz.func55, Tryz.ntmps55
  go_wp2
  go_ret
  exact ⟨rfl, rfl⟩
theorem waiting_bul (b : Nat) (f : Fb) (S : BU) (w : World) (h : Bul w b f S) : Calls Tryz.prog 56 #[.pointer (some ⟨b, 0, none⟩)] w fun r w' => ∃ v, r = .returned v ∧ Ints w' w.heap.size v S.wait ∧ Below w.heap.size w w' := by
  obtain ⟨c0, c1⟩ := h.cells
  have HL := Lib.hid (list_ring f.rb S.que S.wait w h.rng)
  clear h
  go_enter Tryz.func56, Tryz.ntmps56
  go_wp2_with fail
  refine HL.out.mono ?_
  rintro r w1 ⟨v, rfl, hi, hb⟩
  have HI := Lib.hid hi
  have HB := Lib.hid hb
  clear hi hb
  go_wp2
  go_ret
  exact ⟨_, rfl, HI.out, HB.out⟩
theorem waiting_none (w : World) : Calls Tryz.prog 56 #[.pointer none] w fun r w' => r = .returned (.slice none 0 0) ∧ w = w' := by
  go_enter Tryz.func56, Tryz.ntmps56
  go_wp2
  go_ret
  exact ⟨rfl, rfl⟩
theorem waits_bul (b : Nat) (f : Fb) (S : BU) (x : Int) (w : World) (h : Bul w b f S) : Calls Tryz.prog 169 #[.pointer (some ⟨b, 0, none⟩), .int .i64 x] w fun r w' => r = .returned (.bool (decide (x ∈ S.wait))) ∧ Below w.heap.size w w' := by
  obtain ⟨c0, c1⟩ := h.cells
  have HL := Lib.hid (list_ring f.rb S.que S.wait w h.rng)
  clear h
  go_enter Tryz.func169, Tryz.ntmps169
  go_wp2_with fail
  refine HL.out.mono ?_
  rintro r w1 ⟨v, rfl, hi, hb⟩
  obtain ⟨A, n, c, hv, hrow, hnl, hnc, hcm⟩ := own_row' hi
  subst hv
  have HC := Lib.hid (contains_any A n c x S.wait w1 hrow hnl.out)
  have HB := Lib.hid hb
  clear hi hb hrow hnl hnc hcm c0 c1 HL
  go_wp2_with fail
  refine HC.out.mono ?_
  rintro r w2 ⟨rfl, rfl⟩
  go_wp2
  go_ret
  exact ⟨rfl, HB.out⟩
set_option maxHeartbeats 1000000 in
theorem runs_bul (b : Nat) (f : Fb) (S : BU) (x : Int) (w : World) (h : Bul w b f S) (hx : wf64 x) : Calls Tryz.prog 158 #[.pointer (some ⟨b, 0, none⟩), .int .i64 x] w fun r w' => r = .returned (.bool (decide (x ∈ S.run))) ∧ Below w.heap.size w w' := by
  have c0 : ∀ p : Later w, p.v.cell? ⟨b, 0, none⟩ = some (.pointer (some ⟨f.pb, 0, none⟩)) := fun p => p.cell h.cells.1
  have PH : Hid (∀ p : Later w, Calls Tryz.prog 141 #[.pointer (some ⟨f.pb, 0, none⟩), .agg #[.int .i64 x, .int .i64 0]] p.v fun r w' => r = .returned (.bool (decide (x ∈ S.run))) ∧ Below p.v.heap.size p.v w') :=
    Lib.hid (fun p => by have := holds_prm f.pb f.m S.most (hol S.run) x 0 p.v (h.below p.low).prm (wf_h hx); rwa [show decide ((x, (0 : Int)) ∈ hol S.run) = decide (x ∈ S.run) from decide_eq_decide.2 mem_hol0] at this)
  generalize decide (x ∈ S.run) = t at *
  clear h
  go_enter Tryz.func158, Tryz.ntmps158
  go_wp2
  refine wp_region_later (by kernel_rfl) (by kernel_rfl) ?_
  repeat (go_big_quiet_step (first | (go_at_call 118; with_reducible exact Calls.later_of (holder_any x _)) | (go_at_call 141; with_reducible exact Calls.later_of (PH.out _))))
  refine wpQuiet_nil ?_
  rintro _ ⟨⟨w10, b10⟩, rfl⟩
  go_wp2
  go_ret
  exact ⟨rfl, b10⟩
theorem runs_none (x : Int) (w : World) : Calls Tryz.prog 158 #[.pointer none, .int .i64 x] w fun r w' => r = .returned (.bool false) ∧ Below w.heap.size w w' := by
  go_enter Tryz.func158, Tryz.ntmps158
  go_wp2
  refine wp_region_later (by kernel_rfl) (by kernel_rfl) ?_
  repeat (go_big_quiet_step (fail))
  refine wpQuiet_nil ?_
  rintro _ ⟨⟨w10, b10⟩, rfl⟩
  go_wp2
  go_ret
  exact ⟨rfl, b10⟩
end Go.Proofs.YtgnccpmkdgfjeaaGreat

namespace Go.Proofs.YtgnccpmkdgfjeaaGreat
set_option linter.unusedVariables false
set_option maxRecDepth 100000
open Go.ChangeShapes Go.WideShapes Go.ChangeAt Go.RowKit

/-- A window's block: buckets, their width, the last one, the counts. -/
abbrev wobj (B W t : Int) (Z : List Int) : Obj := hobj .u64 176 [.int .u64 B, .int .u64 W, .int .u64 t] Z
theorem wobj_cells {w : World} {b : Nat} {B W t : Int} {Z : List Int} (h : w.heap[b]? = some (wobj B W t Z)) : w.cell? ⟨b, 0, none⟩ = some (.int .u64 B) ∧ w.cell? ⟨b, 1, none⟩ = some (.int .u64 W) ∧ w.cell? ⟨b, 2, none⟩ = some (.int .u64 t) := ⟨by rw [cell_of h]; rfl, by rw [cell_of h]; rfl, by rw [cell_of h]; rfl⟩
theorem wobj_cell {w : World} {b : Nat} {B W t : Int} {Z : List Int} (h : w.heap[b]? = some (wobj B W t Z)) {j : Nat} {z : Int} (hz : Z[j]? = some z) : w.cell? ⟨b, 3 + j, none⟩ = some (.int .u64 z) := hobj_cell h hz
theorem wobj_set {w : World} {b : Nat} {B W t : Int} {Z : List Int} (h : w.heap[b]? = some (wobj B W t Z)) (j : Nat) (z : Int) : (w.setCell ⟨b, 3 + j, none⟩ (.int .u64 z)).heap[b]? = some (wobj B W t (Z.set j z)) := by
  have := heap_set_same (o := 3 + j) h (.int .u64 z)
  rwa [show (3 + j : Nat) = [Value.int .u64 B, .int .u64 W, .int .u64 t].length + j from rfl, hobj_set] at this
theorem wobj_last {w : World} {b : Nat} {B W t : Int} {Z : List Int} (h : w.heap[b]? = some (wobj B W t Z)) (z : Int) : (w.setCell ⟨b, 2, none⟩ (.int .u64 z)).heap[b]? = some (wobj B W z Z) := heap_set_same (o := 2) h (.int .u64 z)
theorem wobj_puts {w : World} {b : Nat} {B W t : Int} {Z : List Int} (h : w.heap[b]? = some (wobj B W t Z)) (o : Nat) (vs : List Int) : (w.setCells b (3 + o) (vs.map (Value.int .u64))).heap[b]? = some (wobj B W t (put Z o vs)) := heap_setCells vs o Z w h
theorem wobj_there {w : World} {b : Nat} {B W t : Int} {Z : List Int} (h : w.heap[b]? = some (wobj B W t Z)) (hl : Z.length = 40) (j : Nat) (hj : j < 40) : (w.cell? ⟨b, 3 + j, none⟩).isSome = true := by
  rw [wobj_cell h (List.getElem?_eq_getElem (by omega : j < Z.length))]; rfl

/-- A window in block b: B buckets of W ticks, the last one t, what was counted in each. -/
structure Win (w : World) (b B W t : Nat) (F : Cnt) : Prop where
  blk : ∃ Z : List Int, w.heap[b]? = some (wobj B W t Z) ∧ Lay B t F Z
  B1 : 1 ≤ B
  B8 : B ≤ 8
  W1 : 1 ≤ W
  Wm : W ≤ 1099511627776
  tm : t ≤ 18446744073709551615
section
variable {w w' : World} {b B W t : Nat} {F : Cnt}
theorem Win.keep (h : Win w b B W t F) (hk : w'.heap[b]? = w.heap[b]?) : Win w' b B W t F := by
  obtain ⟨Z, h1, h2⟩ := h.blk
  exact ⟨⟨Z, hk.trans h1, h2⟩, h.B1, h.B8, h.W1, h.Wm, h.tm⟩
theorem Win.lt (h : Win w b B W t F) : b < w.heap.size := by obtain ⟨Z, h1, _⟩ := h.blk; exact heap_lt h1
theorem Win.below (h : Win w b B W t F) (hb : Below w.heap.size w w') : Win w' b B W t F := h.keep (hb.block b h.lt)
theorem Win.ali (h : Win w b B W t F) (ha : Ali w w') : Win w' b B W t F := h.keep (by rw [ha.heap])
theorem Win.frm {G : Nat → Prop} (h : Win w b B W t F) (hf : Frm G w w') (hn : ¬ G b) : Win w' b B W t F := h.keep (hf.block b h.lt hn)
/-- A block of another kind is another one. -/
theorem Win.other (h : Win w b B W t F) {j : Nat} {cs : Array Value} {ty : TypeId} {f : Nat × Nat} (hj : w.heap[j]? = some (.cells cs ty f)) (ht : ty ≠ 176) : j ≠ b := by
  obtain ⟨Z, h1, _⟩ := h.blk
  rintro rfl
  rw [h1] at hj
  injection hj with hj
  injection hj with _ hj
  exact ht hj.symm
theorem Win.kept (h : Win w b B W t F) (hf : Frm (· = b) w w') {j : Nat} {cs : Array Value} {ty : TypeId} {f : Nat × Nat} (hj : w.heap[j]? = some (.cells cs ty f)) (ht : ty ≠ 176) : w'.heap[j]? = some (.cells cs ty f) := by
  rw [hf.block j (heap_lt hj) (h.other hj ht)]; exact hj
end

theorem wpList_build {P : Program} {w : World} {ops : Array Oper} {rest : List Oper} {o : Oper} {a : Act} {Q : Exit → Act → World → Prop} (hg : o.guard = none) (t : TypeId) (parts : Array (Nat × Operand)) (hop : o.op = .build t parts)
    (v : Value) (hrun : (Instr.build t (parts.map fun (i, x) => (i, a.eval x))).run P w = .ok v w) (h : wpList P ops Q rest (a.put o.dst v) w) : wpList P ops Q (o :: rest) a w := by
  refine wpList_plain hg fun K' hK' => ?_
  unfold Oper.wp
  simp [execOp, hop, hrun, Result.andThen]
  exact hK' _ _ h

def winCells (B W : Int) : Array Value := ⟨.int .u64 B :: .int .u64 W :: .int .u64 0 :: (List.replicate 40 (0 : Int)).map (Value.int .u64)⟩
theorem win_build (B W : Int) (w : World) :
    (Instr.build 176 #[(0, .int .u64 B), (1, .int .u64 W)]).run Tryz.prog w = .ok (.agg (winCells B W)) w := by kernel_rfl

theorem new_win (B W : Nat) (w : World) (h1 : 1 ≤ B) (h8 : B ≤ 8) (hW : 1 ≤ W) (hW' : W ≤ 1099511627776) :
    Calls Tryz.prog 38 #[.int .i64 B, .int .u64 W] w fun r w' => r = .returned (.pointer (some ⟨w.heap.size, 0, none⟩)) ∧ Win w' w.heap.size B W 0 (fun _ _ => 0) ∧ Below w.heap.size w w' := by
  have e1 : ¬ (B : Int) < 1 := by omega
  have e2 : ¬ (8 : Int) < (B : Int) := by omega
  have e3 : ¬ (W : Int) < 1 := by omega
  have e4 : ¬ (1099511627776 : Int) < (W : Int) := by omega
  have hr : Win (w.alloc (.cells (winCells B W) 176)) w.heap.size B W 0 (fun _ _ => 0) := ⟨⟨List.replicate 40 0, heap_alloc_at w _, Lay.new B 0 h1 h8⟩, h1, h8, hW, hW', by omega⟩
  have HR := Lib.hid hr
  have HB := Lib.hid (below_alloc w (.cells (winCells B W) 176))
  clear hr
  go_enter Tryz.func38, Tryz.ntmps38
  go_wp2_with (refine wpList_build rfl 176 _ rfl (.agg (winCells B W)) ?hb ?_; (case hb => kernel_rfl))
  go_ret
  exact ⟨rfl, HR.out, HB.out⟩

theorem place_any (b n B : Nat) (w : World) (hc : w.cell? ⟨b, 0, none⟩ = some (.int .u64 B)) (h1 : 1 ≤ B) :
    Calls Tryz.prog 157 #[.pointer (some ⟨b, 0, none⟩), .int .u64 n] w fun r w' => r = .returned (.int .u64 ((n % B : Nat) : Int)) ∧ w' = w := by
  have hne : ((B : Int) == 0) = false := by simp; omega
  go_enter Tryz.func157, Tryz.ntmps157
  go_wp2
  go_ret
  refine ⟨ret_int ?_, rfl⟩
  exact (Int.natCast_emod n B).symm

theorem Clr.step {B t i p : Nat} {Z Z' : List Int} (h : Clr B t i Z Z') (hp : (t - i) % B = p) (hp8 : p < 8) : Clr B t (i + 1) Z (put Z' (p * 5) (List.replicate 5 0)) := by
  have hl := h.1
  refine ⟨by rw [put_len]; exact hl, fun p' k h1 h2 => ?_⟩
  by_cases he : p' = p
  · subst he
    have e : (put Z' (p' * 5) (List.replicate 5 0))[5 * p' + k]? = some 0 := by
      rw [show 5 * p' + k = p' * 5 + k by omega, put_in _ _ _ _ (by simpa using h2) (by omega), List.getElem?_replicate, if_pos h2]
    exact ⟨fun _ => e, fun hno => absurd hp (hno i (by omega))⟩
  · have e : (put Z' (p * 5) (List.replicate 5 0))[5 * p' + k]? = Z'[5 * p' + k]? := put_out _ _ _ _ (by simp; omega)
    rw [e]
    refine ⟨fun ⟨j, hj, hj'⟩ => (h.2 p' k h1 h2).1 ⟨j, ?_, hj'⟩, fun hno => (h.2 p' k h1 h2).2 (fun j hj => hno j (by omega))⟩
    by_cases hji : j = i
    · subst hji; exact absurd (hj'.symm.trans hp) he
    · omega

set_option maxHeartbeats 1000000 in
theorem reach_win (b B W t now : Nat) (F : Cnt) (w : World) (h : Win w b B W t F) (hn : now ≤ 18446744073709551615) :
    Calls Tryz.prog 116 #[.pointer (some ⟨b, 0, none⟩), .int .u64 now] w fun r w' => r = .returned (.tuple #[]) ∧ Frm (· = b) w w' ∧ Win w' b B W (max (now / W) t) F := by
  obtain ⟨Z, hb, hl⟩ := h.blk
  obtain ⟨c0, c1, c2⟩ := wobj_cells hb
  have hB1 := h.B1
  have hB8 := h.B8
  have hW1 := h.W1
  have hWm := h.Wm
  have htm := h.tm
  have hne : ((W : Int) == 0) = false := by simp; omega
  obtain ⟨q, hq⟩ : ∃ q, now / W = q := ⟨_, rfl⟩
  have hqm : q ≤ 18446744073709551615 := by rw [← hq]; exact Nat.le_trans (Nat.div_le_self _ _) hn
  have hwq : IntKind.u64.wrap ((now : Int) / (W : Int)) = (q : Int) := by rw [← Int.natCast_ediv, hq, IntKind.wrap_u64]; omega
  obtain ⟨t', ht'⟩ : ∃ t', max q t = t' := ⟨_, rfl⟩
  have htt : t ≤ t' ∧ t' ≤ 18446744073709551615 := by rw [← ht']; omega
  have hmx : (if q < t then (t : Int) else (q : Int)) = (t' : Int) := by rw [← ht']; split <;> omega
  obtain ⟨d, hd⟩ : ∃ d, t' - t = d := ⟨_, rfl⟩
  have hwd : IntKind.u64.wrap ((t' : Int) - (t : Int)) = (d : Int) := by rw [IntKind.wrap_u64]; omega
  obtain ⟨m, hm⟩ : ∃ m, (if d < B then d else B) = m := ⟨_, rfl⟩
  have hmn : (if B < d then (B : Int) else (d : Int)) = (m : Int) := by rw [← hm]; split <;> split <;> omega
  have hmn' : (if d < B then (d : Int) else (B : Int)) = (m : Int) := by rw [← hm]; split <;> omega
  have hm8 : m ≤ B ∧ m ≤ t' := by rw [← hm]; split <;> omega
  have HB := Lib.hid hb
  have HL := Lib.hid hl
  have HW := Lib.hid h
  have HQ := Lib.hid hq
  have HT := Lib.hid ht'
  have HD := Lib.hid hd
  have HM := Lib.hid hm
  clear h hb hl hq ht' hd hm
  go_enter Tryz.func116, Tryz.ntmps116
  go_wp2
  go_region
  go_wp2
  go_region
  go_wp2
  go_loopg [30] m (fun k v30 wr => ∃ (i : Nat) (Z' : List Int), i + k = m ∧ v30 = .int .u64 i ∧ wr.heap[b]? = some (wobj B W t Z') ∧ Clr B t' i Z Z' ∧ Frm (· = b) w wr)
  case atStart =>
    refine ⟨0, Z, by omega, rfl, HB.out, ⟨HL.out.len, fun p k hp hk => ⟨fun ⟨j, hj, _⟩ => by omega, fun _ => rfl⟩⟩, ?_⟩
    exact Frm.of_ali ((drew_ali _).trans (drew_ali _))
  case round =>
    obtain ⟨i, Z', hi, rfl, hb, hu, hf⟩ := hrel
    have HI := Lib.hid hi
    have HU := Lib.hid hu
    have HB' := Lib.hid hb
    have HF := Lib.hid hf
    by_cases hlt : i < m
    · obtain ⟨n, hn'⟩ : ∃ n, t' - i = n := ⟨_, rfl⟩
      obtain ⟨p, hp⟩ : ∃ p, n % B = p := ⟨_, rfl⟩
      have hpB : p < B := by rw [← hp]; exact Nat.mod_lt _ (by omega)
      have hwn : IntKind.u64.wrap ((t' : Int) - (i : Int)) = (n : Int) := by rw [IntKind.wrap_u64]; omega
      obtain ⟨e0, _, _⟩ := wobj_cells hb
      have hlen := hu.1
      generalize hwd : wr.drew = wd
      have hb2 : wd.heap[b]? = some (wobj B W t Z') := by rw [← hwd]; exact hb
      obtain ⟨f0, _, _⟩ := wobj_cells hb2
      have hpl := place_any b n B wd f0 hB1
      rw [hp] at hpl
      have hcl : ∀ ty, (Builtin.clear_ #[217] ty #[.slice (some ⟨b, 3 + p * 5, none⟩) 5 5]).run Tryz.prog wd = .ok (.tuple #[]) (wd.setCells b (3 + p * 5) ((List.replicate 5 0).map (Value.int .u64))) :=
        fun ty => run_clear_ints wd _ 22 ty .u64 (.int .u64 0) 1 (by kernel_rfl) (fun w => by kernel_rfl) rfl (by omega) b (3 + p * 5) 5 5 (by omega) (fun j hj => by rw [Nat.add_assoc]; exact wobj_there hb2 hlen _ (by omega)) (fun j hj => frozen_of hb2 _)
      have HWD := Lib.hid hwd
      have hfd : Frm (· = b) w wd := by rw [← hwd]; exact hf.ali (drew_ali _)
      have HX := Lib.hid (wobj_puts hb2 (p * 5) (List.replicate 5 0))
      have HY := Lib.hid (frm_setCells (F := (· = b)) (b := b) rfl ((List.replicate 5 (0 : Int)).map (Value.int .u64)) (3 + p * 5) w wd hfd)
      have HP := Lib.hid (show (t' - i) % B = p by rw [hn', hp])
      clear hfd
      have hlt' : (i : Int) < m := by omega
      have hp8 : (p : Int) < 8 := by omega
      clear hi hu hf hb
      go_wp2
      refine region_tail 10 (by kernel_rfl) (by kernel_rfl) ?_
      simp only [List.take_succ_cons, List.take_zero, List.drop_succ_cons, List.drop_zero]
      rw [HWD.out]
      repeat still_step
      still_call (hpl)
      repeat still_step
      refine wpStill_nil ?_
      go_wp2
      go_roundg (m - (i + 1))
      case measure => have := HI.out; omega
      case rel =>
        exact ⟨i + 1, put Z' (p * 5) (List.replicate 5 0), by omega, by simp, HX.out, HU.out.step HP.out (by omega), HY.out⟩
    · have hlt' : ¬ (i : Int) < m := by omega
      obtain ⟨_, _, e2⟩ := wobj_cells hb
      have e3 := frozen_of hb 2
      clear hi hu hf hb
      go_wp2
      go_end0
      obtain rfl : i = m := by have := HI.out; omega
      have hq := HQ.out
      have ht' := HT.out
      refine ⟨rfl, HF.out.set (p := ⟨b, 2, none⟩) rfl _, ?_⟩
      rw [hq, ht']
      exact ⟨⟨Z', wobj_last HB'.out _, HL.out.reach hB1 hB8 htt.1 (by rw [← HM.out, ← HD.out]) HU.out⟩, hB1, hB8, hW1, hWm, htt.2⟩
end Go.Proofs.YtgnccpmkdgfjeaaGreat

namespace Go.Proofs.YtgnccpmkdgfjeaaGreat
set_option linter.unusedVariables false
set_option maxRecDepth 100000
open Go.ChangeShapes Go.WideShapes Go.ChangeAt Go.RowKit

/-- Its blocks. -/
structure DB where
  db : Nat
  kb : Nat
  ub : Nat
  f : Fb
  wb : Nat
  hb : Nat
  fb : Nat
  fm : Nat
  cm : Nat
/-- Those of them that may turn. -/
def DB.F (D : DB) (j : Nat) : Prop := j = D.db ∨ j = D.kb ∨ D.f.F j ∨ j = D.wb ∨ j = D.hb ∨ j = D.fm ∨ j = D.cm
abbrev ptr (b : Nat) : Value := .pointer (some ⟨b, 0, none⟩)
/-- Its block's cells. -/
def depV (D : DB) (c : Cnf) (pr : Int) : List Value := ptr D.kb :: ptr D.ub :: (c.vals ++ [ptr D.wb, ptr D.hb, ptr D.fb, .map (some D.cm), .int .i64 pr])
abbrev dobj (D : DB) (c : Cnf) (pr : Int) : Obj := vobj 114 (depV D c pr)
theorem depV_len (D : DB) (c : Cnf) (pr : Int) : (depV D c pr).length = 23 := rfl
theorem dobj_cells {w : World} {D : DB} {c : Cnf} {pr : Int} (h : w.heap[D.db]? = some (dobj D c pr)) :
    w.cell? ⟨D.db, 0, none⟩ = some (.pointer (some ⟨D.kb, 0, none⟩)) ∧ w.cell? ⟨D.db, 1, none⟩ = some (.pointer (some ⟨D.ub, 0, none⟩)) ∧ w.cell? ⟨D.db, 18, none⟩ = some (.pointer (some ⟨D.wb, 0, none⟩)) ∧ w.cell? ⟨D.db, 19, none⟩ = some (.pointer (some ⟨D.hb, 0, none⟩)) ∧ w.cell? ⟨D.db, 20, none⟩ = some (.pointer (some ⟨D.fb, 0, none⟩)) ∧ w.cell? ⟨D.db, 21, none⟩ = some (.map (some D.cm)) ∧ w.cell? ⟨D.db, 22, none⟩ = some (.int .i64 pr) :=
  ⟨vobj_cell h rfl, vobj_cell h rfl, vobj_cell h rfl, vobj_cell h rfl, vobj_cell h rfl, vobj_cell h rfl, vobj_cell h rfl⟩
theorem dobj_conf {w : World} {D : DB} {c : Cnf} {pr : Int} (h : w.heap[D.db]? = some (dobj D c pr)) :
    w.cell? ⟨D.db, 7, none⟩ = some (.int .i64 c.chain) ∧ w.cell? ⟨D.db, 8, none⟩ = some (.int .u64 c.timeout) ∧ w.cell? ⟨D.db, 9, none⟩ = some (.int .u64 c.fbTimeout) :=
  ⟨vobj_cell h rfl, vobj_cell h rfl, vobj_cell h rfl⟩
theorem dobj_range {w : World} {D : DB} {c : Cnf} {pr : Int} (h : w.heap[D.db]? = some (dobj D c pr)) : w.rangeAt D.db 2 c.vals := fun j u hu => by
  refine vobj_cell h ?_
  have hj : j < c.vals.length := (List.getElem?_eq_some_iff.1 hu).1
  have e : (depV D c pr)[2 + j]? = (c.vals ++ [ptr D.wb, ptr D.hb, ptr D.fb, .map (some D.cm), .int .i64 pr])[j]? := by
    unfold depV
    rw [show 2 + j = (j + 1) + 1 by omega, List.getElem?_cons_succ, List.getElem?_cons_succ]
  rw [e, List.getElem?_append_left hj]
  exact hu
theorem size1p : (Tryz.prog.info? 3).map (·.size) = some 1 := by kernel_rfl
theorem dobj_pr {w : World} {D : DB} {c : Cnf} {pr : Int} (h : w.heap[D.db]? = some (dobj D c pr)) (n : Int) : (w.setCell ⟨D.db, 22, none⟩ (.int .i64 n)).heap[D.db]? = some (dobj D c n) := by
  rw [vobj_set h]; rfl
/-- A row that lies in no block of N. -/
def OffR (N : Nat → Prop) (A : Option Addr) (n : Nat) : Prop := 0 < n → ∀ b off, A = some ⟨b, off, none⟩ → ¬ N b
theorem OffR.mono {N N' : Nat → Prop} {A : Option Addr} {n : Nat} (h : OffR N A n) (hn : ∀ j, N' j → N j) : OffR N' A n := fun h0 b off e hb => h h0 b off e (hn b hb)
theorem OffR.fresh {N : Nat → Prop} {A : Option Addr} {n B : Nat} (h : Fresh B A) (hn : ∀ j, N j → j < B) : OffR N A n := fun _ b off e hb => by have := h b off e; have := hn b hb; omega
/-- A call's rows lie in no block of N. -/
def OffB (N : Nat → Prop) (A : Option Addr) (n : Nat) (M : Option Addr) (m : Nat) : Prop := OffR N A n ∧ OffR N M m
theorem OffB.mono {N N' : Nat → Prop} {A M : Option Addr} {n m : Nat} (h : OffB N A n M m) (hn : ∀ j, N' j → N j) : OffB N' A n M m := ⟨h.1.mono hn, h.2.mono hn⟩
theorem OffB.fresh {N : Nat → Prop} {A M : Option Addr} {n m B : Nat} (h : Fresh B A ∧ Fresh B M) (hn : ∀ j, N j → j < B) : OffB N A n M m := ⟨OffR.fresh h.1 hn, OffR.fresh h.2 hn⟩
theorem Bat.frm {w w' : World} {A M : Option Addr} {n c m d : Nat} {zs : List Int} {ms : List P2} {F : Nat → Prop} (h : Bat w A n c M m d zs ms) (hf : Frm F w w') (ho : OffB F A n M m) : Bat w' A n c M m d zs ms :=
  ⟨h.ar.apart hf (fun b off e h0 => ho.1 h0 b off e), h.mr.apart hf (fun b off e h0 => ho.2 h0 b off e), h.nc, h.md, h.fits⟩
theorem Bat.off_new {w : World} {A M : Option Addr} {n c m d : Nat} {zs : List Int} {ms : List P2} {N N' : Nat → Prop} (h : Bat w A n c M m d zs ms) (ho : OffB N A n M m) (hn : ∀ j, N' j → N j ∨ w.heap.size ≤ j) : OffB N' A n M m := by
  constructor
  · intro h0 b off e hb
    rcases hn b hb with hb | hb
    · exact ho.1 h0 b off e hb
    · have := h.ar.lt e h0; omega
  · intro h0 b off e hb
    rcases hn b hb with hb | hb
    · exact ho.2 h0 b off e hb
    · have := h.mr.lt e h0; omega
/-- What a map's element is, of a call that is known or isn't. -/
def CallAt (w : World) (N : Nat → Prop) (v : Option Value) : Option CL → Prop
  | none => v = none
  | some x => ∃ A n c M m d, v = some (callV A n c M m d x.k) ∧ Bat w A n c M m d x.zs x.ms ∧ OffB N A n M m
theorem CallAt.frm {w w' : World} {N F : Nat → Prop} {v : Option Value} {x : Option CL} (h : CallAt w N v x) (hf : Frm F w w') (hn : ∀ j, F j → N j) : CallAt w' N v x := by
  cases x with
  | none => exact h
  | some x =>
    obtain ⟨A, n, c, M, m, d, e, hb, ho⟩ := h
    exact ⟨A, n, c, M, m, d, e, hb.frm hf (ho.mono hn), ho⟩
theorem CallAt.grow {w : World} {N N' : Nat → Prop} {v : Option Value} {x : Option CL} (h : CallAt w N v x) (hn : ∀ j, N' j → N j ∨ w.heap.size ≤ j) : CallAt w N' v x := by
  cases x with
  | none => exact h
  | some x =>
    obtain ⟨A, n, c, M, m, d, e, hb, ho⟩ := h
    exact ⟨A, n, c, M, m, d, e, hb, hb.off_new ho hn⟩
/-- The calls that are known: a map in block m. -/
def ClsM (w : World) (N : Nat → Prop) (m : Nat) (cs : List CL) : Prop := ∃ g, MapV intK w m cs.length g ∧ ∀ id, wf64 id → CallAt w N (g id) (cs.find? (fun x => x.id == id))
theorem ClsM.keep {w w' : World} {N F : Nat → Prop} {m : Nat} {cs : List CL} (h : ClsM w N m cs) (hf : Frm F w w') (hm : ¬ F m) (hn : ∀ j, F j → N j) : ClsM w' N m cs := by
  obtain ⟨g, h1, h2⟩ := h
  exact ⟨g, h1.keep (hf.block m h1.lt hm), fun id hid => (h2 id hid).frm hf hn⟩
theorem ClsM.grow {w : World} {N N' : Nat → Prop} {m : Nat} {cs : List CL} (h : ClsM w N m cs) (hn : ∀ j, N' j → N j ∨ w.heap.size ≤ j) : ClsM w N' m cs := by
  obtain ⟨g, h1, h2⟩ := h
  exact ⟨g, h1, fun id hid => (h2 id hid).grow hn⟩
/-- A dependency in the blocks D; its calls' rows lie in no block of N. -/
structure DepM (w : World) (D : DB) (N : Nat → Prop) (c : Cnf) (S : DS) : Prop where
  blk : w.heap[D.db]? = some (dobj D c S.pr)
  brk : Brk w D.kb S.brk
  bul : Bul w D.ub D.f S.bul
  win : Win w D.wb c.B c.W S.wt S.wF
  his : His w D.hb c.B c.W S.ht S.hF
  fal : Prm w D.fb D.fm c.fbMax.toNat S.fb
  cls : ClsM w N D.cm S.cs
  uni : (S.cs.map CL.id).Nodup
  ne1 : D.f.m ≠ D.fm
  ne2 : D.f.m ≠ D.cm
  ne3 : D.fm ≠ D.cm
  inN : ∀ j, D.F j → N j
/-- A block of cells of a type; a map's. -/
def tyAt (w : World) (j : Nat) : Option TypeId := match w.heap[j]? with | some (.cells _ t _) => some t | _ => none
theorem ty_cells {w : World} {j : Nat} {cs : Array Value} {t : TypeId} {z : Nat × Nat} (h : w.heap[j]? = some (.cells cs t z)) : tyAt w j = some t := by unfold tyAt; rw [h]
theorem ty_map {w : World} {j : Nat} {es : Array MapEntry} {k : Nat} (h : w.heap[j]? = some (.map es k)) : tyAt w j = none := by unfold tyAt; rw [h]
theorem ty_ne {w : World} {i j : Nat} {s t : Option TypeId} (h : tyAt w i = s) (h' : tyAt w j = t) (hn : s ≠ t) : i ≠ j := by
  rintro rfl
  exact hn (h.symm.trans h')
section
variable {w w' : World} {D : DB} {N N' : Nat → Prop} {c : Cnf} {S : DS}
theorem DepM.tdb (h : DepM w D N c S) : tyAt w D.db = some 114 := ty_cells h.blk
theorem DepM.tkb (h : DepM w D N c S) : tyAt w D.kb = some 172 := ty_cells (show w.heap[D.kb]? = some (brobj S.brk) from h.brk)
theorem DepM.tub (h : DepM w D N c S) : tyAt w D.ub = some 223 := ty_cells h.bul.blk
theorem DepM.tpb (h : DepM w D N c S) : tyAt w D.f.pb = some 182 := ty_cells h.bul.prm.blk
theorem DepM.tfb (h : DepM w D N c S) : tyAt w D.fb = some 182 := ty_cells h.fal.blk
theorem DepM.trb (h : DepM w D N c S) : tyAt w D.f.rb = some 258 := by obtain ⟨Z, h1, _⟩ := h.bul.rng.blk; exact ty_cells h1
theorem DepM.twb (h : DepM w D N c S) : tyAt w D.wb = some 176 := by obtain ⟨Z, h1, _⟩ := h.win.blk; exact ty_cells h1
theorem DepM.thb (h : DepM w D N c S) : tyAt w D.hb = some 179 := by obtain ⟨Z, h1, _⟩ := h.his.blk; exact ty_cells h1
theorem DepM.tm (h : DepM w D N c S) : tyAt w D.f.m = none := by obtain ⟨es, k, h1⟩ := h.bul.prm.mp.obj; exact ty_map h1
theorem DepM.tfm (h : DepM w D N c S) : tyAt w D.fm = none := by obtain ⟨es, k, h1⟩ := h.fal.mp.obj; exact ty_map h1
theorem DepM.tcm (h : DepM w D N c S) : tyAt w D.cm = none := by obtain ⟨g, h1, _⟩ := h.cls; obtain ⟨es, k, h1⟩ := h1.obj; exact ty_map h1
theorem DepM.grow (h : DepM w D N c S) (hn : ∀ j, N' j → N j ∨ w.heap.size ≤ j) (hi : ∀ j, D.F j → N' j) : DepM w D N' c S :=
  ⟨h.blk, h.brk, h.bul, h.win, h.his, h.fal, h.cls.grow hn, h.uni, h.ne1, h.ne2, h.ne3, hi⟩
/-- None of its blocks is new. -/
theorem DepM.old (h : DepM w D N c S) {j : Nat} (hj : D.F j) : j < w.heap.size := by
  obtain ⟨g, h1, _⟩ := h.cls
  rcases hj with rfl | rfl | (rfl | rfl) | rfl | rfl | rfl | rfl
  · exact heap_lt h.blk
  · exact h.brk.lt
  · exact h.bul.prm.mp.lt
  · exact h.bul.rng.lt
  · exact h.win.lt
  · exact h.his.lt
  · exact h.fal.mp.lt
  · exact h1.lt
theorem Bul.frm {b : Nat} {f : Fb} {T : BU} {F : Nat → Prop} (h : Bul w b f T) (hf : Frm F w w') (h1 : ¬ F b) (h2 : ¬ F f.pb) (h3 : ¬ F f.m) (h4 : ¬ F f.rb) : Bul w' b f T :=
  ⟨(hf.block b h.lt h1).trans h.blk, h.prm.keep (hf.block _ (heap_lt h.prm.blk) h2) (hf.block _ h.prm.mp.lt h3), h.rng.frm hf h4, h.ok⟩
theorem Prm.frm {b m most : Nat} {L : List Hol} {F : Nat → Prop} (h : Prm w b m most L) (hf : Frm F w w') (h1 : ¬ F b) (h2 : ¬ F m) : Prm w' b m most L :=
  h.keep (hf.block _ (heap_lt h.blk) h1) (hf.block _ h.mp.lt h2)
/-- Blocks that are none of it turn. -/
theorem DepM.frm {F : Nat → Prop} (h : DepM w D N c S) (hf : Frm F w w') (hn : ∀ j, F j → N j) (h1 : ¬ F D.db) (h2 : ¬ F D.kb) (h3 : ¬ F D.ub) (h4 : ¬ F D.f.pb) (h5 : ¬ F D.f.m) (h6 : ¬ F D.f.rb) (h7 : ¬ F D.wb) (h8 : ¬ F D.hb) (h9 : ¬ F D.fb) (h10 : ¬ F D.fm) (h11 : ¬ F D.cm) : DepM w' D N c S :=
  ⟨(hf.block _ (heap_lt h.blk) h1).trans h.blk, h.brk.frm hf h2, h.bul.frm hf h3 h4 h5 h6, h.win.frm hf h7, h.his.frm hf h8, h.fal.frm hf h9 h10, h.cls.keep hf h11 hn, h.uni, h.ne1, h.ne2, h.ne3, h.inN⟩
theorem DepM.below (h : DepM w D N c S) (hb : Below w.heap.size w w') : DepM w' D N c S :=
  h.frm (F := fun _ => False) (Frm.of_below hb) (fun _ hc => hc.elim) id id id id id id id id id id id
theorem DepM.ali (h : DepM w D N c S) (ha : Ali w w') : DepM w' D N c S := h.below (ali_below ha)
/-- A block of another kind is none of it; one that is new. -/
theorem DepM.frm1 {b : Nat} (h : DepM w D N c S) (hf : Frm (· = b) w w') (hn : N b) {t : TypeId} (ht : tyAt w b = some t)
    (n1 : t ≠ 114) (n2 : t ≠ 172) (n3 : t ≠ 223) (n4 : t ≠ 182) (n5 : t ≠ 258) (n6 : t ≠ 176) (n7 : t ≠ 179) : DepM w' D N c S :=
  h.frm hf (fun j e => by rw [e]; exact hn) (ty_ne h.tdb ht (by simpa using Ne.symm n1)) (ty_ne h.tkb ht (by simpa using Ne.symm n2)) (ty_ne h.tub ht (by simpa using Ne.symm n3)) (ty_ne h.tpb ht (by simpa using Ne.symm n4)) (ty_ne h.tm ht (by simp))
    (ty_ne h.trb ht (by simpa using Ne.symm n5)) (ty_ne h.twb ht (by simpa using Ne.symm n6)) (ty_ne h.thb ht (by simpa using Ne.symm n7)) (ty_ne h.tfb ht (by simpa using Ne.symm n4)) (ty_ne h.tfm ht (by simp)) (ty_ne h.tcm ht (by simp))
/-! ### one of its parts has turned -/
theorem DepM.brk1 (h : DepM w D N c S) (hf : Frm (· = D.kb) w w') {x : BK} (hx : Brk w' D.kb x) : DepM w' D N c { S with brk := x } :=
  ⟨(hf.block _ (heap_lt h.blk) (ty_ne h.tdb h.tkb (by decide))).trans h.blk, hx,
   h.bul.frm hf (ty_ne h.tub h.tkb (by decide)) (ty_ne h.tpb h.tkb (by decide)) (ty_ne h.tm h.tkb (by simp)) (ty_ne h.trb h.tkb (by decide)),
   h.win.frm hf (ty_ne h.twb h.tkb (by decide)), h.his.frm hf (ty_ne h.thb h.tkb (by decide)), h.fal.frm hf (ty_ne h.tfb h.tkb (by decide)) (ty_ne h.tfm h.tkb (by simp)),
   h.cls.keep hf (ty_ne h.tcm h.tkb (by simp)) (fun j e => h.inN j (by rw [e]; exact .inr (.inl rfl))), h.uni, h.ne1, h.ne2, h.ne3, h.inN⟩
theorem DepM.win1 (h : DepM w D N c S) (hf : Frm (· = D.wb) w w') {t : Nat} {G : Cnt} (hx : Win w' D.wb c.B c.W t G) : DepM w' D N c { S with wt := t, wF := G } :=
  ⟨(hf.block _ (heap_lt h.blk) (ty_ne h.tdb h.twb (by decide))).trans h.blk, h.brk.frm hf (ty_ne h.tkb h.twb (by decide)),
   h.bul.frm hf (ty_ne h.tub h.twb (by decide)) (ty_ne h.tpb h.twb (by decide)) (ty_ne h.tm h.twb (by simp)) (ty_ne h.trb h.twb (by decide)),
   hx, h.his.frm hf (ty_ne h.thb h.twb (by decide)), h.fal.frm hf (ty_ne h.tfb h.twb (by decide)) (ty_ne h.tfm h.twb (by simp)),
   h.cls.keep hf (ty_ne h.tcm h.twb (by simp)) (fun j e => h.inN j (by rw [e]; exact .inr (.inr (.inr (.inl rfl))))), h.uni, h.ne1, h.ne2, h.ne3, h.inN⟩
theorem DepM.his1 (h : DepM w D N c S) (hf : Frm (· = D.hb) w w') {t : Nat} {G : Cnt} (hx : His w' D.hb c.B c.W t G) : DepM w' D N c { S with ht := t, hF := G } :=
  ⟨(hf.block _ (heap_lt h.blk) (ty_ne h.tdb h.thb (by decide))).trans h.blk, h.brk.frm hf (ty_ne h.tkb h.thb (by decide)),
   h.bul.frm hf (ty_ne h.tub h.thb (by decide)) (ty_ne h.tpb h.thb (by decide)) (ty_ne h.tm h.thb (by simp)) (ty_ne h.trb h.thb (by decide)),
   h.win.frm hf (ty_ne h.twb h.thb (by decide)), hx, h.fal.frm hf (ty_ne h.tfb h.thb (by decide)) (ty_ne h.tfm h.thb (by simp)),
   h.cls.keep hf (ty_ne h.tcm h.thb (by simp)) (fun j e => h.inN j (by rw [e]; exact .inr (.inr (.inr (.inr (.inl rfl)))))), h.uni, h.ne1, h.ne2, h.ne3, h.inN⟩
theorem DepM.bul1 (h : DepM w D N c S) (hf : Frm D.f.F w w') {b : BU} (hx : Bul w' D.ub D.f b) : DepM w' D N c (S.bulB b) := by
  have hno : ∀ {j : Nat} {t : Option TypeId}, tyAt w j = t → t ≠ none → t ≠ some 258 → ¬ D.f.F j := by
    rintro j t hj h1 h2 (e | e)
    · exact ty_ne hj h.tm h1 e
    · exact ty_ne hj h.trb h2 e
  exact ⟨(hf.block _ (heap_lt h.blk) (hno h.tdb (by simp) (by decide))).trans h.blk, h.brk.frm hf (hno h.tkb (by simp) (by decide)), hx,
   h.win.frm hf (hno h.twb (by simp) (by decide)), h.his.frm hf (hno h.thb (by simp) (by decide)),
   h.fal.frm hf (hno h.tfb (by simp) (by decide)) (by rintro (e | e); exact h.ne1 e.symm; exact ty_ne h.tfm h.trb (by simp) e),
   h.cls.keep hf (by rintro (e | e); exact h.ne2 e.symm; exact ty_ne h.tcm h.trb (by simp) e) (fun j e => h.inN j (.inr (.inr (.inl e)))), h.uni, h.ne1, h.ne2, h.ne3, h.inN⟩
theorem DepM.fal1 (h : DepM w D N c S) (hf : Frm (· = D.fm) w w') {l : List Hol} (hx : Prm w' D.fb D.fm c.fbMax.toNat l) : DepM w' D N c (S.fbB l) :=
  ⟨(hf.block _ (heap_lt h.blk) (ty_ne h.tdb h.tfm (by simp))).trans h.blk, h.brk.frm hf (ty_ne h.tkb h.tfm (by simp)),
   h.bul.frm hf (ty_ne h.tub h.tfm (by simp)) (ty_ne h.tpb h.tfm (by simp)) h.ne1 (ty_ne h.trb h.tfm (by simp)),
   h.win.frm hf (ty_ne h.twb h.tfm (by simp)), h.his.frm hf (ty_ne h.thb h.tfm (by simp)), hx,
   h.cls.keep hf (fun e => h.ne3 e.symm) (fun j e => h.inN j (by rw [e]; exact .inr (.inr (.inr (.inr (.inr (.inl rfl))))))), h.uni, h.ne1, h.ne2, h.ne3, h.inN⟩
theorem DepM.pr2 (h : DepM w D N c S) {n : Int} (hf : Frm (· = D.db) w w') (hk : w'.heap[D.db]? = some (dobj D c n)) : DepM w' D N c (S.pr_ n) :=
  ⟨hk, h.brk.frm hf (ty_ne h.tkb h.tdb (by decide)),
   h.bul.frm hf (ty_ne h.tub h.tdb (by decide)) (ty_ne h.tpb h.tdb (by decide)) (ty_ne h.tm h.tdb (by simp)) (ty_ne h.trb h.tdb (by decide)),
   h.win.frm hf (ty_ne h.twb h.tdb (by decide)), h.his.frm hf (ty_ne h.thb h.tdb (by decide)), h.fal.frm hf (ty_ne h.tfb h.tdb (by decide)) (ty_ne h.tfm h.tdb (by simp)),
   h.cls.keep hf (ty_ne h.tcm h.tdb (by simp)) (fun j e => h.inN j (by rw [e]; exact .inl rfl)), h.uni, h.ne1, h.ne2, h.ne3, h.inN⟩
/-- The calls' map has turned. -/
theorem DepM.cls1 (h : DepM w D N c S) (hf : Frm (· = D.cm) w w') (hN : ∀ j, N' j → N j) (hi : ∀ j, D.F j → N' j) {cs : List CL} (hx : ClsM w' N' D.cm cs) (hu : (cs.map CL.id).Nodup) : DepM w' D N' c { S with cs := cs } :=
  ⟨(hf.block _ (heap_lt h.blk) (ty_ne h.tdb h.tcm (by simp))).trans h.blk, h.brk.frm hf (ty_ne h.tkb h.tcm (by simp)),
   h.bul.frm hf (ty_ne h.tub h.tcm (by simp)) (ty_ne h.tpb h.tcm (by simp)) h.ne2 (ty_ne h.trb h.tcm (by simp)),
   h.win.frm hf (ty_ne h.twb h.tcm (by simp)), h.his.frm hf (ty_ne h.thb h.tcm (by simp)), h.fal.frm hf (ty_ne h.tfb h.tcm (by simp)) h.ne3,
   hx, hu, h.ne1, h.ne2, h.ne3, hi⟩
end
/-! ### the list of calls -/
theorem without_mem {cs : List CL} {id : Int} {x : CL} : x ∈ without cs id ↔ x ∈ cs ∧ x.id ≠ id := by simp [without]
theorem cfind_some {cs : List CL} {id : Int} {x : CL} (h : cs.find? (fun x => x.id == id) = some x) : x ∈ cs ∧ x.id = id := ⟨List.mem_of_find?_eq_some h, by simpa using List.find?_some h⟩
theorem cfind_none {cs : List CL} {id : Int} : cs.find? (fun x => x.id == id) = none ↔ ∀ x ∈ cs, x.id ≠ id := by simp [List.find?_eq_none]
theorem find_mem {cs : List CL} {x : CL} (hu : (cs.map CL.id).Nodup) (h : x ∈ cs) : cs.find? (fun y => y.id == x.id) = some x := by
  induction cs with
  | nil => cases h
  | cons y l ih =>
    rw [List.map_cons, List.nodup_cons] at hu
    rcases List.mem_cons.1 h with rfl | h
    · simp
    · have hne : y.id ≠ x.id := fun e => hu.1 (by rw [e]; exact List.mem_map_of_mem h)
      rw [List.find?_cons_of_neg (by simpa using hne)]
      exact ih hu.2 h
theorem find_without {cs : List CL} {id z : Int} : (without cs id).find? (fun x => x.id == z) = if z = id then none else cs.find? (fun x => x.id == z) := by
  split
  · rename_i e
    subst e
    rw [cfind_none]
    intro x hx
    exact (without_mem.1 hx).2
  · rename_i hne
    induction cs with
    | nil => rfl
    | cons y l ih =>
      unfold without at ih ⊢
      rw [List.filter_cons]
      by_cases hy : y.id = id
      · have : (y.id == z) = false := by simp; omega
        rw [if_neg (by simp [hy]), List.find?_cons_of_neg (by rw [this]; simp)]
        exact ih
      · simp only [show (!(y.id == id)) = true by simp [hy], if_true]
        rw [List.find?_cons, List.find?_cons, ih]
theorem without_uni {cs : List CL} {id : Int} (h : (cs.map CL.id).Nodup) : ((without cs id).map CL.id).Nodup := List.Sublist.nodup (List.Sublist.map _ List.filter_sublist) h
theorem put_uni {cs : List CL} {x : CL} (h : (cs.map CL.id).Nodup) : ((without cs x.id ++ [x]).map CL.id).Nodup := by
  rw [List.map_append]
  refine List.nodup_append.2 ⟨without_uni h, by simp, ?_⟩
  intro a ha b hb e
  rw [List.mem_map] at ha
  obtain ⟨y, hy, rfl⟩ := ha
  simp at hb
  subst hb
  exact (without_mem.1 hy).2 e
theorem find_put {cs : List CL} {x : CL} {z : Int} : (without cs x.id ++ [x]).find? (fun y => y.id == z) = if z = x.id then some x else cs.find? (fun y => y.id == z) := by
  rw [List.find?_append, find_without]
  split
  · rename_i e; subst e; simp
  · rename_i hne
    have : ¬ x.id = z := fun e => hne e.symm
    simp [this]
theorem without_len {cs : List CL} {id : Int} (h : (cs.map CL.id).Nodup) : (without cs id).length = if (cs.find? (fun x => x.id == id)).isSome then cs.length - 1 else cs.length := by
  induction cs with
  | nil => rfl
  | cons y l ih =>
    rw [List.map_cons, List.nodup_cons] at h
    have ih := ih h.2
    unfold without at ih ⊢
    rw [List.filter_cons]
    by_cases hy : y.id = id
    · have hn : l.find? (fun x => x.id == id) = none := by
        rw [cfind_none]
        intro x hx e
        exact h.1 (by rw [hy, ← e]; exact List.mem_map_of_mem hx)
      rw [hn] at ih
      simp [hy]
      simpa using ih
    · have hb : (y.id == id) = false := by simp [hy]
      rw [List.find?_cons_of_neg (by simp [hb])]
      simp only [hb, Bool.not_false, if_true, List.length_cons, ih]
      split
      · rename_i hs
        have : 0 < l.length := by
          cases l with
          | nil => simp at hs
          | cons _ _ => simp
        omega
      · rfl
theorem cput_len {cs : List CL} {x : CL} (h : (cs.map CL.id).Nodup) : (without cs x.id ++ [x]).length = if (cs.find? (fun y => y.id == x.id)).isSome then cs.length else cs.length + 1 := by
  rw [List.length_append, without_len h]
  split
  · rename_i hs
    have : 0 < cs.length := by
      cases cs with
      | nil => simp at hs
      | cons _ _ => simp
    simp; omega
  · simp
end Go.Proofs.YtgnccpmkdgfjeaaGreat

namespace Go.Proofs.YtgnccpmkdgfjeaaGreat
set_option linter.unusedVariables false
open Go.ChangeShapes Go.WideShapes Go.ChangeAt Go.RowKit

/-- A world of the class C. (The walk wants 'Nonempty (InC C)' among the hypotheses.) -/
structure InC (C : World → Prop) where
  v : World
  ok : C v
theorem wp_region_in {P : Program} {id : Nat} {Q : Exit → Act → World → Prop} {a : Act} {w : World} {l : List Oper} (C : World → Prop) (hm : P.follows .mixedOrders = true) (hB : Region.lexB .any l.toArray = true) (h0 : C w.drew)
    (h : wpQuiet P l.toArray (fun w' => ∃ p : InC C, w' = p.v) (fun a' => ∀ w', (∃ p : InC C, w' = p.v) → Q .normal a' w') l a) : (Code.region id l.toArray true).wp P Q a w :=
  wp_region_quiet (C := fun w' => ∃ p : InC C, w' = p.v) hm hB ⟨⟨w.drew, h0⟩, rfl⟩ (by simpa using h)
theorem Calls.in_of {P : Program} {C : World → Prop} {f : FuncId} {args : Array Value} {p : InC C} {v : Value} (h : Calls P f args p.v fun e w' => e = .returned v ∧ C w') :
    Calls P f args p.v fun e w'' => e = .returned v ∧ ∃ p : InC C, w'' = p.v :=
  h.mono fun _ w' ⟨he, hb⟩ => ⟨he, ⟨w', hb⟩, rfl⟩
/-- A load whose run is said. -/
theorem wpQuiet_loadC {P : Program} {C : World → Prop} {ops : Array Oper} {Q : Act → Prop} {o : Oper} {rest : List Oper} {a : Act} (hw : Region.wanted o (yielded ops a.tmps) = true) (ty : TypeId) (x : Operand) (ho : o.op = .load ty x) (b off : Nat) (hx : a.eval x = .pointer (some ⟨b, off, none⟩)) (v : Value) (hrun : ∀ p : InC C, (Instr.loadAt ty (.pointer (some ⟨b, off, none⟩))).run P p.v = .ok v p.v)
    (h : wpQuiet P ops (fun w' => ∃ p : InC C, w' = p.v) Q rest (a.put o.dst v)) : wpQuiet P ops (fun w' => ∃ p : InC C, w' = p.v) Q (o :: rest) a :=
  BigFrame.wpQuiet_want hw fun K hK => ⟨v, fun w' ⟨p, hp⟩ => by subst hp; unfold Oper.quietAt execOp; simp [ho, hx, hrun p, Oper.quietUpon], hK _ h⟩
end Go.Proofs.YtgnccpmkdgfjeaaGreat
