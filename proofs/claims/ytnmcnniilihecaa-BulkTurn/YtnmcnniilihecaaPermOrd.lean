/- Pairs of numbers in their turn (by the first, then by the second), plain: put in, taken out, the one rising list of given members. No model in this text. -/
import Derived.Test.YtnmcnniilihecaaKit
import Derived.Sort.Statements
namespace Go.Proofs.Ytnmcnniilihecaa
set_option linter.unusedVariables false

abbrev Hol := Int × Int
def ltH (a b : Hol) : Bool := decide (a.1 < b.1) || (a.1 == b.1 && decide (a.2 < b.2))
theorem ltH_iff {a b : Hol} : ltH a b = true ↔ a.1 < b.1 ∨ (a.1 = b.1 ∧ a.2 < b.2) := by simp [ltH]
theorem ltH_not {a b : Hol} : ltH a b = false ↔ b.1 < a.1 ∨ (a.1 = b.1 ∧ b.2 ≤ a.2) := by
  rw [← Bool.not_eq_true, ltH_iff]
  omega
theorem ltH_irrefl (a : Hol) : ltH a a = false := by rw [ltH_not]; omega
theorem ltH_trans {a b c : Hol} (h : ltH a b = true) (k : ltH b c = true) : ltH a c = true := by
  rw [ltH_iff] at *
  omega
theorem ltH_tri (a b : Hol) : ltH a b = true ∨ a = b ∨ ltH b a = true := by
  rw [ltH_iff, ltH_iff]
  obtain ⟨a1, a2⟩ := a
  obtain ⟨b1, b2⟩ := b
  simp only [Prod.mk.injEq]
  omega
theorem ltH_asymm {a b : Hol} (h : ltH a b = true) : ltH b a = false := by rw [ltH_iff] at h; rw [ltH_not]; omega
theorem ltH_ne {a b : Hol} (h : ltH a b = true) : a ≠ b := by rintro rfl; rw [ltH_irrefl] at h; cases h
def cmpI (x y : Int) : Int := if x < y then -1 else if y < x then 1 else 0
def cmpH (a b : Hol) : Int := if cmpI a.1 b.1 = 0 then cmpI a.2 b.2 else cmpI a.1 b.1
theorem cmpH_lt (a b : Hol) : decide (cmpH a b < 0) = ltH a b := by
  have e : (cmpH a b < 0) ↔ ltH a b = true := by
    rw [ltH_iff]
    unfold cmpH cmpI
    split <;> split <;> (try split) <;> omega
  cases h : ltH a b
  · simp only [decide_eq_false_iff_not]; rw [e, h]; simp
  · simp only [decide_eq_true_eq]; rw [e, h]

def Rise (L : List Hol) : Prop := L.Pairwise (fun a b => ltH a b = true)
theorem rise_nil : Rise [] := List.Pairwise.nil
theorem Rise.nodup {L : List Hol} (h : Rise L) : L.Nodup := List.Pairwise.imp (fun hab => ltH_ne hab) h
theorem rise_unique : ∀ {L K : List Hol}, Rise L → Rise K → (∀ x, x ∈ L ↔ x ∈ K) → L = K
  | [], [], _, _, _ => rfl
  | [], y :: K, _, _, h => by have := (h y).2 (by simp); simp at this
  | x :: L, [], _, _, h => by have := (h x).1 (by simp); simp at this
  | x :: L, y :: K, hl, hk, h => by
    have hl1 := List.pairwise_cons.1 hl
    have hk1 := List.pairwise_cons.1 hk
    have hxy : x = y := by
      rcases List.mem_cons.1 ((h x).1 (by simp)) with e | e
      · exact e
      · rcases List.mem_cons.1 ((h y).2 (by simp)) with e' | e'
        · exact e'.symm
        · have a := hk1.1 x e
          have b := hl1.1 y e'
          have := ltH_asymm a
          rw [b] at this
          cases this
    subst hxy
    congr 1
    refine rise_unique hl1.2 hk1.2 fun z => ⟨fun hz => ?_, fun hz => ?_⟩
    · rcases List.mem_cons.1 ((h z).1 (by simp [hz])) with e | e
      · exact (ltH_ne (hl1.1 z hz) e.symm).elim
      · exact e
    · rcases List.mem_cons.1 ((h z).2 (by simp [hz])) with e | e
      · exact (ltH_ne (hk1.1 z hz) e.symm).elim
      · exact e

/-- One more, in its turn. -/
def insH (h : Hol) : List Hol → List Hol
  | [] => [h]
  | x :: L => if ltH x h then x :: insH h L else h :: x :: L
theorem mem_insH {h x : Hol} : ∀ {L : List Hol}, x ∈ insH h L ↔ x = h ∨ x ∈ L
  | [] => by simp [insH]
  | y :: L => by
    rw [insH]
    split
    · rw [List.mem_cons, mem_insH, List.mem_cons]
      constructor <;> rintro (a | a | a) <;> simp [a]
    · rw [List.mem_cons]
theorem length_insH (h : Hol) : ∀ L : List Hol, (insH h L).length = L.length + 1
  | [] => rfl
  | y :: L => by
    rw [insH]
    split
    · simp [length_insH h L]
    · rfl
theorem rise_insH {h : Hol} : ∀ {L : List Hol}, Rise L → h ∉ L → Rise (insH h L)
  | [], _, _ => List.pairwise_singleton _ _
  | y :: L, hr, hn => by
    have h1 := List.pairwise_cons.1 hr
    rw [insH]
    split
    · rename_i hy
      refine List.pairwise_cons.2 ⟨fun z hz => ?_, rise_insH h1.2 (fun hc => hn (by simp [hc]))⟩
      rcases mem_insH.1 hz with rfl | hz
      · exact hy
      · exact h1.1 z hz
    · rename_i hy
      have hhy : ltH h y = true := by
        rcases ltH_tri h y with a | a | a
        · exact a
        · exact (hn (by simp [a])).elim
        · exact (hy a).elim
      refine List.pairwise_cons.2 ⟨fun z hz => ?_, hr⟩
      rcases List.mem_cons.1 hz with rfl | hz
      · exact hhy
      · exact ltH_trans hhy (h1.1 z hz)
/-- Put in behind the i first ones, which are all ahead of it, the next one being not. -/
theorem insH_at {h : Hol} : ∀ {L : List Hol} {i : Nat}, (∀ j x, j < i → L[j]? = some x → ltH x h = true) → (∀ x, L[i]? = some x → ltH x h = false) → insH h L = L.take i ++ (h :: L.drop i)
  | [], i, _, _ => by simp [insH]
  | y :: L, 0, _, h2 => by
    rw [insH, if_neg (by rw [h2 y rfl]; simp)]
    simp
  | y :: L, i + 1, h1, h2 => by
    rw [insH, if_pos (h1 0 y (by omega) rfl), insH_at (L := L) (i := i) (fun j x hj hx => h1 (j + 1) x (by omega) (by simpa using hx)) (fun x hx => h2 x (by simpa using hx))]
    simp

def outH (h : Hol) (L : List Hol) : List Hol := L.filter (fun x => !(x == h))
theorem mem_outH {h x : Hol} {L : List Hol} : x ∈ outH h L ↔ x ∈ L ∧ x ≠ h := by simp [outH]
theorem rise_outH {h : Hol} {L : List Hol} (hr : Rise L) : Rise (outH h L) := List.Pairwise.filter _ hr
theorem outH_not {h : Hol} {L : List Hol} (hn : h ∉ L) : outH h L = L := List.filter_eq_self.2 (fun a ha => by simp; rintro rfl; exact hn ha)
theorem length_outH {h : Hol} : ∀ {L : List Hol}, L.Nodup → h ∈ L → (outH h L).length + 1 = L.length
  | [], _, hm => by simp at hm
  | y :: L, hd, hm => by
    have h1 := List.nodup_cons.1 hd
    by_cases hy : y = h
    · subst hy
      have : outH y (y :: L) = outH y L := by simp [outH]
      rw [this, outH_not h1.1]
      rfl
    · have : outH h (y :: L) = y :: outH h L := by simp [outH, hy]
      rw [this]
      have := length_outH h1.2 (h := h) (by rcases List.mem_cons.1 hm with e | e; exact (hy e.symm).elim; exact e)
      simp [this]
theorem length_outH_le (h : Hol) (L : List Hol) : (outH h L).length ≤ L.length := List.length_filter_le _ _
theorem outH_ins {h : Hol} {L : List Hol} (hr : Rise L) (hn : h ∉ L) : outH h (insH h L) = L := by
  refine rise_unique (rise_outH (rise_insH hr hn)) hr fun x => ?_
  rw [mem_outH, mem_insH]
  constructor
  · rintro ⟨a | a, b⟩
    · exact (b a).elim
    · exact a
  · intro a
    exact ⟨.inr a, by rintro rfl; exact hn a⟩

/-- What a sort leaves of unlike pairs is their rising list. -/
theorem sorted_rise {d d' : Array Hol} {L : List Hol} (hL : Rise L) (hd : d.toList.Nodup) (hm : ∀ x, x ∈ d.toList ↔ x ∈ L) (hp : Sort.PermIn 0 d.size d d') (hs : Sort.SortedIn ltH 0 d.size d') : d'.toList = L := by
  obtain ⟨h1, _, h3⟩ := hp
  rw [Array.extract_eq_self_of_le (by omega), Array.extract_eq_self_of_le (by omega)] at h3
  have hnd : d'.toList.Nodup := h3.nodup_iff.2 hd
  refine rise_unique ?_ hL fun x => (h3.mem_iff).trans (hm x)
  refine List.pairwise_iff_getElem.2 fun i j hi hj hij => ?_
  have hi' : i < d'.size := by simpa using hi
  have hj' : j < d'.size := by simpa using hj
  have h4 := hs i j (Nat.zero_le _) hij (by omega)
  rw [getElem!_pos d' i hi', getElem!_pos d' j hj'] at h4
  have h5 := List.pairwise_iff_getElem.1 hnd i j hi hj hij
  simp only [Array.getElem_toList] at h5 ⊢
  rcases ltH_tri d'[i] d'[j] with a | a | a
  · exact a
  · exact (h5 a).elim
  · rw [a] at h4; cases h4
end Go.Proofs.Ytnmcnniilihecaa
