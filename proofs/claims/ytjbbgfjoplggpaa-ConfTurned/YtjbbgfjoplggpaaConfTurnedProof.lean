/- What is proved: ConfTurned of porpoiselaw08 answers true for every input, and leaves its arguments as they were; conditions: those of the given row alone. -/
import Derived.Test.YtjbbgfjoplggpaaKit
import Derived.Test.YtjbbgfjoplggpaaLaw08
namespace Go.Proofs.Ytjbbgfjoplggpaa.confTurned
open Go.ChangeShapes Go.WideShapes Go.ChangeAt Go.RowKit Go.Deep
open Go.ChangeMaps (open_string shut_string)
set_option linter.unusedVariables false

theorem own : ownKnob Try.prog.godebug = none := by kernel_rfl
theorem laidOut : laidOutB Try.prog = true := by kernel_rfl

open Cnf
/-- The numbers of a list as a configuration. -/
def ofL (l : List Int) : Cnf := ⟨l.getD 0 0, l.getD 1 0, l.getD 2 0, l.getD 3 0, l.getD 4 0, l.getD 5 0, l.getD 6 0, l.getD 7 0, l.getD 8 0, l.getD 9 0, l.getD 10 0, l.getD 11 0, l.getD 12 0, l.getD 13 0, l.getD 14 0, l.getD 15 0⟩
theorem L_ofL : ∀ {l : List Int}, l.length = 16 → (ofL l).L = l
  | [_, _, _, _, _, _, _, _, _, _, _, _, _, _, _, _], _ => rfl
theorem fit_of {f : Cnf} (h : ∀ z ∈ f.L, -9223372036854775808 ≤ z ∧ z ≤ 9223372036854775807) : f.Fit64 := by
  constructor <;> exact h _ (by simp [L])
theorem L_fit {f : Cnf} (h : f.Fit64) : ∀ z ∈ f.L, -9223372036854775808 ≤ z ∧ z ≤ 9223372036854775807 := by
  intro z hz
  simp only [L, List.mem_cons, List.not_mem_nil, or_false] at hz
  rcases hz with rfl | rfl | rfl | rfl | rfl | rfl | rfl | rfl | rfl | rfl | rfl | rfl | rfl | rfl | rfl | rfl
  · exact h.mode
  · exact h.pool
  · exact h.queue
  · exact h.sem
  · exact h.fbMax
  · exact h.chain
  · exact h.timeout
  · exact h.fbTimeout
  · exact h.volume
  · exact h.percent
  · exact h.sleep
  · exact h.buckets
  · exact h.width
  · exact h.window
  · exact h.batch
  · exact h.force
theorem goods_same {f f' : Cnf} {m : Nat} (hm : m ≤ 16) (h : ∀ j, j < m → f'.L[j]? = f.L[j]?) : ∀ j, j < m → f'.goods[j]? = f.goods[j]? := by
  intro j hj
  have hmode : f'.mode = f.mode := by have := h 0 (by omega); simpa [L] using this
  have hs : f'.spans[j]? = f.spans[j]? := by
    by_cases h14 : j = 14
    · subst h14
      have hw : f'.window = f.window := by have := h 13 (by omega); simpa [L] using this
      simp [spans, hw]
    · have : ∀ k, k < 16 → k ≠ 14 → f'.spans[k]? = f.spans[k]? := by
        intro k hk hk'
        match k, hk, hk' with
        | 0, _, _ => rfl
        | 1, _, _ => simp [spans, hmode]
        | 2, _, _ => simp [spans, hmode]
        | 3, _, _ => simp [spans, hmode]
        | 4, _, _ => rfl
        | 5, _, _ => rfl
        | 6, _, _ => rfl
        | 7, _, _ => rfl
        | 8, _, _ => rfl
        | 9, _, _ => rfl
        | 10, _, _ => rfl
        | 11, _, _ => rfl
        | 12, _, _ => rfl
        | 13, _, _ => rfl
        | 14, _, h => exact absurd rfl h
        | 15, _, _ => rfl
        | k + 16, h, _ => omega
      exact this j (by omega) h14
  unfold goods
  rw [List.getElem?_zipWith, List.getElem?_zipWith, h j hj, hs]
theorem spans_low (f : Cnf) : ∀ p ∈ f.spans, 0 ≤ p.1 := by
  intro p hp
  simp only [spans, List.mem_cons, List.not_mem_nil, or_false] at hp
  rcases hp with rfl | rfl | rfl | rfl | rfl | rfl | rfl | rfl | rfl | rfl | rfl | rfl | rfl | rfl | rfl | rfl
  all_goals first | decide | (split <;> decide)
theorem wrong_turned {f f' : Cnf} {m : Nat} (hm : m < 16) (hf : f.wrong = 0) (h : ∀ j, j < m → f'.L[j]? = f.L[j]?) (h1 : f'.L[m]? = some (-1)) : f'.wrong = m + 1 := by
  refine firstF_at (fun j hj => ?_) ?_
  · rw [goods_same (by omega) h j hj]
    have hl : j < f.goods.length := by rw [f.len_goods]; omega
    rw [List.getElem?_eq_getElem hl, firstF_zero hf _ (List.getElem_mem hl)]
  · obtain ⟨z, p, hz, hp, hg⟩ := good_at f' m hm
    have : z = -1 := by rw [h1] at hz; injection hz with hz; exact hz.symm
    have := spans_low f' p (List.mem_of_getElem? hp)
    rw [hg]
    simp
    omega
theorem turned {f : Cnf} {A B m : Nat} (hA : A < 16) (hB : B < 16) (hm : (if A < B then A else B) = m) (hf : f.wrong = 0) (hF : f.Fit64) :
    ∃ f' : Cnf, f'.Fit64 ∧ f'.wrong = m + 1 ∧ (f.nums.set A (.int .i64 (-1))).set B (.int .i64 (-1)) = f'.nums := by
  have hl : ((f.L.set A (-1)).set B (-1)).length = 16 := by simp [f.len_L]
  have hL := L_ofL hl
  refine ⟨ofL ((f.L.set A (-1)).set B (-1)), fit_of ?_, wrong_turned (f := f) (by split at hm <;> omega) hf ?_ ?_, ?_⟩
  · rw [hL]
    intro z hz
    rcases List.mem_or_eq_of_mem_set hz with hz | rfl
    · rcases List.mem_or_eq_of_mem_set hz with hz | rfl
      · exact L_fit hF z hz
      · decide
    · decide
  · intro j hj
    rw [hL, List.getElem?_set_ne (by split at hm <;> omega), List.getElem?_set_ne (by split at hm <;> omega)]
  · rw [hL]
    by_cases hAB : m = B
    · subst hAB; rw [List.getElem?_set_self (by simp [f.len_L]; omega)]
    · have : m = A := by split at hm <;> omega
      subst this
      rw [List.getElem?_set_ne (by omega), List.getElem?_set_self (by simp [f.len_L]; omega)]
  · rw [nums_L, nums_L, hL, List.map_set, List.map_set]
theorem L_some (f : Cnf) {A : Nat} (hA : A < 16) : ∃ z, f.L[A]? = some z := ⟨_, List.getElem?_eq_getElem (by rw [f.len_L]; exact hA)⟩

set_option maxRecDepth 100000 in
set_option maxHeartbeats 2000000 in
theorem walk (w : World) (c0 : Array Value) (w0 : Flat [.int .i64, .int .i64, .int .i64, .int .i64, .int .i64, .int .i64, .int .u64, .int .u64, .int .i64, .int .i64, .int .u64, .int .i64, .int .u64, .int .u64, .int .i64, .int .i64] c0.toList) (a1 : Int) (w1 : (Lit.int .u8 a1).wf = true) (a2 : Int) (w2 : (Lit.int .u8 a2).wf = true) :
    Calls Try.prog 6 #[.agg c0, .int .u8 a1, .int .u8 a2] w fun e w' => e = .returned (.bool true) ∧ Below w.heap.size w w' := by
  obtain ⟨c, rfl, hc⟩ := cnf_flat w0
  have b1 := bounds_u8 w1
  have b2 := bounds_u8 w2
  obtain ⟨g, hg⟩ : ∃ g, w.heap.size = g := ⟨_, rfl⟩
  obtain ⟨fs, hu⟩ := undC
  obtain ⟨n, hn⟩ : ∃ n, c.bad = n := ⟨_, rfl⟩
  obtain ⟨A, hA⟩ : ∃ A : Nat, a1 % 16 = A := ⟨(a1 % 16).toNat, by omega⟩
  obtain ⟨B, hB⟩ : ∃ B : Nat, a2 % 16 = B := ⟨(a2 % 16).toNat, by omega⟩
  have hA16 : A < 16 := by omega
  have hB16 : B < 16 := by omega
  have HU := Lib.hid hu
  have HZ := Lib.hid (sizeC c)
  have HZP := Lib.hid (sizeF c.put)
  have HK := Lib.hid (fun v => check_any c v hc n hn)
  have HP := Lib.hid (fun v => put_any c v)
  have HF := Lib.hid (Cnf.put_fits hc)
  have HW : Hid (c.put.wrong = n) := Lib.hid (by rw [Cnf.wrong_put hc, hn])
  clear hu hn w0 w1 w2
  obtain ⟨e, he⟩ : ∃ e, Cnf.errOf n = e := ⟨_, rfl⟩
  rw [he] at HK
  have HX : Hid (e = 0 ∧ n = 0 ∨ e = 1) := Lib.hid (by rw [← he]; unfold Cnf.errOf; split <;> simp_all)
  clear he
  go_enter Try.func6, Try.ntmps6
  go_wp2_with (refine wpList_box_agg rfl 24 _ rfl g hg c.vals rfl ?_; intro w1 h1 l1 s1)
  refine (awake_any _).mono ?_
  rintro r w2 ⟨rfl, b2⟩
  have h2 := kb_below h1 b2
  have B2 := Lib.hid (l1.trans (b2.mono (by omega : g ≤ w1.heap.size)))
  clear b2 h1 l1 s1
  go_wp2_with (refine wpList_load_agg rfl 24 _ rfl g rfl c.vals h2 _ HU.out rfl HZ.out ?_)
  refine (HK.out _).mono ?_
  rintro r w3 ⟨rfl, b3⟩
  have h3 := kb_below h2 b3
  have B3 := Lib.hid (B2.out.trans (b3.mono (by have := B2.out.size; omega)))
  clear b3 h2 B2 HK
  rcases HX.out with ⟨rfl, hn0⟩ | rfl
  · subst hn0
    go_wp2_with (refine wpList_load_agg rfl 24 _ rfl g rfl c.vals h3 _ HU.out rfl HZ.out ?_)
    refine (HP.out _).mono ?_
    rintro r w4 ⟨rfl, b4⟩
    have B4 := Lib.hid (B3.out.trans (b4.mono (by have := B3.out.size; omega)))
    clear b4 h3 B3 HP
    obtain ⟨k, hk⟩ : ∃ k, w4.heap.size = k := ⟨_, rfl⟩
    obtain ⟨m, hm⟩ : ∃ m, (if A < B then A else B) = m := ⟨_, rfl⟩
    obtain ⟨f', hf1, hf2, hf3⟩ := turned hA16 hB16 hm HW.out HF.out
    have HF3 := Lib.hid hf3
    have HT := Lib.hid (fun v => take_any f' v hf1 (m + 1) hf2)
    rw [if_neg (by omega : ¬ m + 1 = 0), show Cnf.errOf (m + 1) = 1 by unfold Cnf.errOf; rw [if_neg (by omega)]] at HT
    have HZ3 := Lib.hid (sizeF f')
    have hmn : (if A < B then (A : Int) else (B : Int)) = (m : Int) := by rw [← hm]; split <;> rfl
    have hmn' : (if B < A then (B : Int) else (A : Int)) = (m : Int) := by rw [← hm]; split <;> split <;> omega
    have hm16 : m < 16 := by rw [← hm]; split <;> omega
    obtain ⟨zA, hzA⟩ := L_some c.put hA16
    have HZA := Lib.hid hzA
    have hbk : g ≤ k := by rw [← hk]; have := B4.out.size; omega
    have hzc := fun v => zeroC v
    have hsz := fun v => sameC (c := Cnf.zero) (by constructor <;> decide) v
    have HZZ := Lib.hid (sizeC Cnf.zero)
    clear hm hf1 hf2 hf3 hzA
    go_wp2_with (first
      | (refine wpList_alloc_agg rfl 30 rfl k hk Cnf.zero.nums (allocF _) ?_; intro w6 h6 l6 s6)
      | (refine wpList_store_agg rfl 30 _ _ rfl k Cnf.zero.nums c.put.nums rfl rfl h6 rfl HZP.out (Cnf.ones_nums _) ?_; intro w7 h7 f7 s7;
         have cA : w7.cell? ⟨k, A, none⟩ = some (.int .i64 zA) := L_cell h7 HZA.out;
         have zfA := vobj_frozen h7 A;
         have h8 := vobj_set h7 A (.int .i64 (-1));
         obtain ⟨vB, hvB⟩ : ∃ v, (c.put.nums.set A (.int .i64 (-1)))[B]? = some v := ⟨_, List.getElem?_eq_getElem (by simp [Cnf.len_nums]; omega)⟩;
         have cB := vobj_cell h8 hvB;
         have zfB := vobj_frozen h8 B;
         have h9 := vobj_set h8 B (.int .i64 (-1));
         rw [HF3.out] at h9;
         have B7 := Lib.hid ((((B4.out.trans (l6.mono hbk)).trans (f7.below (by omega : g ≤ w6.heap.size) (fun j hj e => by omega))).setCell (p := ⟨k, A, none⟩) hbk (.int .i64 (-1))).setCell (p := ⟨k, B, none⟩) hbk (.int .i64 (-1)));
         have H9 := Lib.hid h9;
         clear h6 l6 s6 h7 f7 s7 h8 hvB h9 B4)
      | (refine wpList_load_agg rfl 30 _ rfl k rfl f'.nums H9.out _ undF rfl HZ3.out ?_)
      | (go_at_call 16; refine (HT.out _).mono ?_; rintro r wa ⟨rfl, ba⟩; have BA := Lib.hid (B7.out.trans (ba.mono (by have := B7.out.size; omega))); clear ba B7; obtain ⟨q, hq⟩ : ∃ q, wa.heap.size = q := ⟨_, rfl⟩)
      | (refine wpList_alloc_agg rfl 24 rfl q hq Cnf.zero.vals (allocC _) ?_; intro wb hb lb sb)
      | (refine wpList_store_agg rfl 24 _ _ rfl q Cnf.zero.vals Cnf.zero.vals rfl rfl hb rfl HZZ.out (Cnf.ones_vals _) ?_; intro wc hc' fc sc)
      | (refine wpList_load_aggG rfl 24 _ rfl q rfl Cnf.zero.vals hc' _ HU.out rfl HZZ.out ?_))
    go_ret
    refine ⟨rfl, ?_⟩
    subst hg
    exact (BA.out.trans (lb.mono (by have := BA.out.size; omega))).trans (fc.below (by have := BA.out.size; omega) (fun j hj e => by have := BA.out.size; omega))
  · go_wp2
    go_ret
    exact ⟨rfl, by subst hg; exact B3.out⟩

set_option maxRecDepth 100000 in
theorem lifted (os : Os) (started : os.Started) (H : Type) (enc : TypeId × Value → H) :
    ReturnsInHanded {} Try.checked os 6 .any (Rows.confTurnedSpec.pre6 enc Try.prog Try.f6 Rows.confTurnedRow.domain false) (Rows.confTurnedSpec.post enc Try.prog Try.f6 false true false false) := by
  refine returnsInHanded_of_change_sized (C := Try.checked) own started (by kernel_rfl) Try.func6
    (ChangeSpec.witness6 (enc := enc) (C := Try.checked) false ⟨#[], #[.agg #[.int .i64 0, .int .i64 0, .int .i64 0, .int .i64 0, .int .i64 0, .int .i64 0, .int .u64 0, .int .u64 0, .int .i64 0, .int .i64 0, .int .u64 0, .int .i64 0, .int .u64 0, .int .u64 0, .int .i64 0, .int .i64 0], .int .u8 0, .int .u8 0], []⟩ 8 (by kernel_rfl) (by kernel_rfl) (by kernel_rfl) (by kernel_rfl)) ?_
  intro W base args ds gs before hval0 hW hcnd hsz0 _
  have hval : ∀ (j : Nat) t v, Try.f6.params[j]? = some t → args[j]? = some v → Value.okWide Try.prog W .any base t v := hval0
  have hsz : (DataW.weightsEach Try.prog (Try.f6.params.toList ++ Rows.confTurnedSpec.plain.varTypes Try.prog) (ds ++ gs)).all (· ≤ reachBytes) = true := hsz0
  have hW' := hW
  obtain ⟨p, q, hA0, hV, rfl, hfz, hnd⟩ := hW
  have hA : DataW.TrodAll enc Try.prog W 0 (fun _ => true) true Try.f6.params.toList args.toList ds p := hA0
  rw [Try.params6] at hA hval hsz
  have hAk := hA
  obtain ⟨v0, vs0, d0, ds0, p0, q0, hargs, rfl, rfl, h0, r0⟩ := trodAll_cons hA
  obtain ⟨v1, vs1, d1, ds1, p1, q1, rfl, rfl, rfl, h1, r1⟩ := trodAll_cons r0
  obtain ⟨v2, vs2, d2, ds2, p2, q2, rfl, rfl, rfl, h2, r2⟩ := trodAll_cons r1
  obtain ⟨rfl, rfl, rfl⟩ := trodAll_nil r2
  obtain rfl : args = #[v0, v1, v2] := by cases args; simp_all
  obtain ⟨rfl, rfl⟩ := trodVars_none hV
  obtain ⟨c0, rfl, w0⟩ := open_flat (ks := [.int .i64, .int .i64, .int .i64, .int .i64, .int .i64, .int .i64, .int .u64, .int .u64, .int .i64, .int .i64, .int .u64, .int .i64, .int .u64, .int .u64, .int .i64, .int .i64]) 8 (by kernel_rfl) (by kernel_rfl) (hval 0 24 v0 rfl rfl) h0
  obtain ⟨a1, rfl, rfl, rfl, w1⟩ := open_int Try.underlying5 (hval 1 5 v1 rfl rfl) h1
  obtain ⟨a2, rfl, rfl, rfl, w2⟩ := open_int Try.underlying5 (hval 2 5 v2 rfl rfl) h2
  clear hA0 hval0 hsz0
  refine (walk W c0 w0 a1 w1 a2 w2).mono fun e W' ⟨he, bel⟩ => ?_
  subst he
  exact ⟨_, rfl, _, _, _, [], _, [], hW', trodAll_mk1 (shut_bool Try.underlying4 _), trodAll_below laidOut bel _ _ _ _ (by kernel_rfl) hAk, rfl, bel.frame _, fun h => by cases h⟩

theorem over : Rows.confTurnedRow.holds Try.pinned (OpenSpec.ofChange Rows.confTurnedSpec) :=
  OpenClaim.holds_of_wide 6 Try.f6 rfl rfl rfl rfl rfl rfl rfl ⟨rfl, rfl, rfl, rfl, rfl⟩ rfl rfl rfl rfl rfl (by kernel_rfl) Try.func6 (by kernel_rfl)
    (of_decide_eq_true (by kernel_rfl)) (by unfold Func.isWrapper; first | (rw [if_pos (by decide +kernel)]; kernel_rfl) | (rw [if_neg (by decide +kernel)]; exact ⟨rfl, rfl⟩))
    (fun os started H enc _ => lifted os started H enc)

theorem proved : Rows.ConfTurnedSaid := over
#print axioms proved
end Go.Proofs.Ytjbbgfjoplggpaa.confTurned
