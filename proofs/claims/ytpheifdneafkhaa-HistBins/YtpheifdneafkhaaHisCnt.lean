/- What was noted as a list (bucket, bin), counted; percents of such counts; bins and longest times. No model in it. -/
import Derived.Test.YtpheifdneafkhaaHisPct
namespace Go.Proofs.Ytpheifdneafkhaa
set_option linter.unusedVariables false

/-! ### longest times -/
theorem lenN_le : ∀ {k n : Nat}, lenN n ≤ k ↔ n < 2 ^ k
  | 0, n => by
    by_cases h : n = 0
    · subst h; simp [lenN_zero]
    · rw [lenN_step (by omega)]; simp; omega
  | k + 1, n => by
    by_cases h : n = 0
    · subst h; exact ⟨fun _ => Nat.two_pow_pos _, fun _ => by rw [lenN_zero]; omega⟩
    · rw [lenN_step (by omega), Nat.pow_succ]
      have := lenN_le (k := k) (n := n / 2)
      omega
theorem topN_ge {n k : Nat} : (n : Int) ≤ topN k ↔ lenN n ≤ k := by
  have h : (2 : Int) ^ k = ((2 ^ k : Nat) : Int) := by simp
  rw [lenN_le]; unfold topN; rw [h]; omega
theorem topN_lt {i j : Nat} (h : i < j) : topN i < topN j := by
  have h1 : (2 : Int) ^ i = ((2 ^ i : Nat) : Int) := by simp
  have h2 : (2 : Int) ^ j = ((2 ^ j : Nat) : Int) := by simp
  have := Nat.pow_lt_pow_right (a := 2) (by omega) h
  unfold topN; rw [h1, h2]; omega
theorem topN_mono {i j : Nat} (h : i ≤ j) : topN i ≤ topN j := by
  rcases Nat.lt_or_eq_of_le h with h | rfl
  · exact Int.le_of_lt (topN_lt h)
  · exact Int.le_refl _
theorem topN_zero : topN 0 = 0 := rfl
theorem topN_half (i : Nat) : topN (i + 1) / 2 = topN i := by unfold topN; rw [Int.pow_succ]; omega
theorem topN_bd {i : Nat} (h : i ≤ 64) : 0 ≤ topN i ∧ topN i ≤ 18446744073709551615 :=
  ⟨by have := topN_mono (Nat.zero_le i); rwa [topN_zero] at this, topN_mono h⟩
theorem topN_step (i : Nat) : topN (i + 1) = 2 * topN i + 1 := by unfold topN; rw [Int.pow_succ]; omega

/-! ### what was noted, counted -/
def cntF (L : List (Nat × Nat)) : Cnt := fun q k => ((L.countP fun e => e.1 == q && e.2 == k : Nat) : Int)
/-- The bins of those that are told at t. -/
def told (t B : Nat) (L : List (Nat × Nat)) : List Nat := (L.filter fun e => decide (e.1 ≤ t ∧ t < e.1 + B)).map (·.2)
def cntL (K : List Nat) : List Int := (List.range 65).map fun k => ((K.count k : Nat) : Int)
theorem cntL_len (K : List Nat) : (cntL K).length = 65 := by simp [cntL]
theorem cntL_at (K : List Nat) {k : Nat} (h : k < 65) : (cntL K)[k]? = some ((K.count k : Nat) : Int) := by simp [cntL, h]
theorem cntF_nil : cntF [] = fun _ _ => 0 := rfl
theorem cntF_add (L : List (Nat × Nat)) (t k : Nat) (h : L.length ≤ 1000) : upd (cntF L) t k (addS (cntF L t k) 1) = cntF (L ++ [(t, k)]) := by
  funext q j
  have hle : L.countP (fun e => e.1 == t && e.2 == k) ≤ L.length := List.countP_le_length
  by_cases he : q = t ∧ j = k
  · obtain ⟨rfl, rfl⟩ := he
    rw [upd_same]
    unfold addS cntF
    rw [if_pos (by omega), List.countP_append]
    simp
  · rw [upd_other he]
    unfold cntF
    rw [List.countP_append]
    have : List.countP (fun e : Nat × Nat => e.1 == q && e.2 == j) [(t, k)] = 0 := by
      rw [List.countP_eq_zero]
      intro e hm
      rw [List.mem_singleton] at hm
      subst hm
      simp
      omega
    rw [this]; simp
theorem told_len (t B : Nat) (L : List (Nat × Nat)) : (told t B L).length ≤ L.length := by unfold told; rw [List.length_map]; exact List.length_filter_le _ _
theorem told_append (t B : Nat) (L M : List (Nat × Nat)) : told t B (L ++ M) = told t B L ++ told t B M := by simp [told]
theorem told_mem {t B : Nat} {L : List (Nat × Nat)} (h : ∀ e ∈ L, e.2 < 65) : ∀ k ∈ told t B L, k < 65 := by
  intro k hk
  simp only [told, List.mem_map, List.mem_filter] at hk
  obtain ⟨e, ⟨he, _⟩, rfl⟩ := hk
  exact h e he
theorem cnt_tot (t k n : Nat) : ∀ L : List (Nat × Nat), tot (cntF L) t k n = ((told t n L).count k : Nat)
  | [] => by rw [cntF_nil, tot_zero (F := fun _ _ => 0) n (fun _ _ => rfl)]; rfl
  | e :: L => by
    have ih := cnt_tot t k n L
    have hs : ∀ q, cntF (e :: L) q k = cntF [e] q k + cntF L q k := fun q => by
      unfold cntF
      rw [show e :: L = [e] ++ L from rfl, List.countP_append]
      omega
    rw [tot_add hs, ih, show e :: L = [e] ++ L from rfl, told_append, List.count_append]
    have h1 : tot (cntF [e]) t k n = ((told t n [e]).count k : Nat) := by
      by_cases hk : e.2 = k
      · rw [tot_one (q0 := e.1) (x := 1) (by simp [cntF, hk]) (fun q hq => by simp [cntF]; omega)]
        by_cases hc : e.1 ≤ t ∧ t < e.1 + n
        · rw [if_pos hc]; simp [told, hc, hk]
        · rw [if_neg hc]; simp [told, hc]
      · rw [tot_zero n (fun q _ => by simp [cntF]; intro _; exact hk)]
        by_cases hc : e.1 ≤ t ∧ t < e.1 + n
        · simp [told, hc, hk]
        · simp [told, hc]
    rw [h1]; omega
/-- What All tells of what was noted. -/
theorem allL_cnt (L : List (Nat × Nat)) (t B : Nat) (h : L.length ≤ 1000) : allL (cntF L) t B = cntL (told t B L) := by
  unfold allL cntL
  refine List.map_congr_left fun k _ => ?_
  have h1 := told_len t B L
  have h2 := List.count_le_length (a := k) (l := told t B L)
  rw [cnt_tot, satS_of (by omega)]
theorem cntL_ok (K : List Nat) (h : K.length ≤ 1000) : Ok65 (cntL K) := by
  refine ⟨cntL_len K, fun n hn => ?_⟩
  simp only [cntL, List.mem_map] at hn
  obtain ⟨k, _, rfl⟩ := hn
  have := List.count_le_length (a := k) (l := K)
  omega
theorem sum_cnt (K : List Nat) (h : K.length ≤ 1000) : ∀ i, i ≤ 65 → sumS ((cntL K).take i) = ((K.countP fun k => decide (k < i) : Nat) : Int)
  | 0, _ => by simp [sumS]
  | i + 1, hi => by
    rw [sumS_snoc _ _ (by rw [cntL_len]; omega), sum_cnt K h i (by omega), List.getD_eq_getElem?_getD, cntL_at K (by omega)]
    have e : K.countP (fun k => decide (k < i + 1)) = K.countP (fun k => decide (k < i)) + K.count i := by
      clear h
      induction K with
      | nil => rfl
      | cons a K ih =>
        simp only [List.countP_cons, List.count_cons, ih]
        by_cases h1 : a < i
        · have : a < i + 1 := by omega
          have h2 : ¬ a = i := by omega
          simp [h1, this, h2]; omega
        · by_cases h2 : a = i
          · subst h2; simp; omega
          · have : ¬ a < i + 1 := by omega
            simp [h1, this, h2]
    have h1 : K.countP (fun k => decide (k < i + 1)) ≤ K.length := List.countP_le_length
    rw [e] at h1 ⊢
    simp only [Option.getD_some]
    unfold addS
    rw [if_pos (by omega)]
    omega
theorem all_lt {K : List Nat} (hK : ∀ k ∈ K, k < 65) : K.countP (fun k => decide (k < 65)) = K.length := List.countP_eq_length.2 (fun k hk => by simpa using hK k hk)
theorem sum_cnt_all {K : List Nat} (h : K.length ≤ 1000) (hK : ∀ k ∈ K, k < 65) : sumS (cntL K) = K.length := by
  have := sum_cnt K h 65 (by omega)
  rw [List.take_of_length_le (by rw [cntL_len]; omega), all_lt hK] at this
  exact this
/-- Are those up to bin i that percent? -/
theorem okP_cnt {K : List Nat} (h : K.length ≤ 1000) (hK : ∀ k ∈ K, k < 65) {p : Int} (hp : 1 ≤ p) {i : Nat} (hi : i < 65) :
    okP (cntL K) p i = true ↔ 0 < K.countP (fun k => decide (k < i + 1)) ∧ p * K.length ≤ 100 * (K.countP (fun k => decide (k < i + 1)) : Nat) := by
  unfold okP partB
  rw [sum_cnt K h _ (by omega), sum_cnt_all h hK, if_neg (by omega)]
  simp only [Bool.and_eq_true, decide_eq_true_eq]
  omega
theorem clampP_bd (p : Int) : 1 ≤ clampP p ∧ clampP p ≤ 100 := by unfold clampP; split <;> (try split) <;> omega
/-- There is one, if there is anything. -/
theorem pct_there {K : List Nat} (h : K.length ≤ 1000) (hK : ∀ k ∈ K, k < 65) (h0 : 0 < K.length) {p : Int} (hp : 1 ≤ p) (hp' : p ≤ 100) : ∃ i, pctN (cntL K) p = some i := by
  cases hn : pctN (cntL K) p with
  | some i => exact ⟨i, rfl⟩
  | none =>
    unfold pctN at hn
    rw [List.find?_eq_none] at hn
    refine absurd ((okP_cnt h hK hp (i := 64) (by omega)).2 ?_) (hn 64 (by simp))
    rw [all_lt hK]
    refine ⟨h0, ?_⟩
    have := Int.mul_le_mul_of_nonneg_right hp' (show (0 : Int) ≤ (K.length : Int) by omega)
    exact this
theorem pct_empty (p : Int) : pctN (cntL []) p = none := pctN_none fun j hj => by
  unfold okP
  rw [sum_cnt [] (by simp) _ (by omega)]
  simp
/-- A higher percent is no lower bin. -/
theorem pct_rises {K : List Nat} (h : K.length ≤ 1000) (hK : ∀ k ∈ K, k < 65) {p p' : Int} (hp : 1 ≤ p) (hpp : p ≤ p') {i i' : Nat} (hi : pctN (cntL K) p = some i) (hi' : pctN (cntL K) p' = some i') : i ≤ i' := by
  obtain ⟨h1, h2, h3⟩ := pctN_inv hi
  obtain ⟨k1, k2, k3⟩ := pctN_inv hi'
  rcases Nat.lt_or_ge i' i with hlt | hge
  · have := h3 i' hlt
    rw [okP_cnt h hK (by omega) k1] at k2
    have hb := (okP_cnt h hK hp (i := i') (by omega)).2 ⟨k2.1, by
      have := Int.mul_le_mul_of_nonneg_right hpp (show (0 : Int) ≤ (K.length : Int) by omega)
      omega⟩
    rw [this] at hb
    cases hb
  · exact hge
/-- Where all stand in one bin, it is that. -/
theorem pct_same {k n : Nat} (hk : k < 65) (hn : 0 < n) (hn' : n ≤ 1000) {p : Int} (hp : 1 ≤ p) (hp' : p ≤ 100) : pctN (cntL (List.replicate n k)) p = some k := by
  have hl : (List.replicate n k).length ≤ 1000 := by simpa using hn'
  have hK : ∀ j ∈ List.replicate n k, j < 65 := fun j hj => by rw [List.eq_of_mem_replicate hj]; exact hk
  refine pctN_some hk ((okP_cnt hl hK hp hk).2 ?_) (fun j hj => ?_)
  · rw [List.countP_eq_length.2 (fun j hj => by rw [List.eq_of_mem_replicate hj]; simp), List.length_replicate]
    refine ⟨hn, ?_⟩
    exact Int.mul_le_mul_of_nonneg_right hp' (show (0 : Int) ≤ (n : Int) by omega)
  · cases hb : okP (cntL (List.replicate n k)) p j with
    | false => rfl
    | true =>
      rw [okP_cnt hl hK hp (by omega), List.countP_eq_zero.2 (fun i hi => by rw [List.eq_of_mem_replicate hi]; simp; omega)] at hb
      omega
end Go.Proofs.Ytpheifdneafkhaa
