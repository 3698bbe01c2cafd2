/- What is proved: HistAll of porpoiselaw07 answers true for every input, and leaves its arguments as they were; conditions: those of the given row alone. -/
import Derived.Test.YtpheifdneafkhaaKit
import Derived.Test.YtpheifdneafkhaaLaw07
namespace Go.Proofs.Ytpheifdneafkhaa.histAll
open Go.ChangeShapes Go.WideShapes Go.ChangeAt Go.RowKit Go.Deep
open Go.ChangeMaps (open_string shut_string)
set_option linter.unusedVariables false

theorem own : ownKnob Try.prog.godebug = none := by kernel_rfl
theorem laidOut : laidOutB Try.prog = true := by kernel_rfl

def mx (a b : Int) : Int := if a < b then b else a
def maxL (zs : List Int) : Int := zs.foldl mx 0
theorem mx_ge (l : List Int) : ∀ s, s ≤ l.foldl mx s ∧ ∀ z ∈ l, z ≤ l.foldl mx s := by
  induction l with
  | nil => intro s; exact ⟨Int.le_refl _, by simp⟩
  | cons a l ih =>
    intro s
    have h := ih (mx s a)
    have h1 : s ≤ mx s a ∧ a ≤ mx s a := by unfold mx; split <;> omega
    refine ⟨Int.le_trans h1.1 h.1, fun z hz => ?_⟩
    rcases List.mem_cons.1 hz with rfl | hz
    · exact Int.le_trans h1.2 h.1
    · exact h.2 z hz
theorem mx_le {c : Int} (l : List Int) : ∀ s, s ≤ c → (∀ z ∈ l, z ≤ c) → l.foldl mx s ≤ c := by
  induction l with
  | nil => intro s h _; exact h
  | cons a l ih =>
    intro s h hl
    exact ih (mx s a) (by have := hl a (by simp); unfold mx; split <;> omega) (fun z hz => hl z (by simp [hz]))
theorem maxL_snoc (zs : List Int) (i : Nat) (h : i < zs.length) : maxL (zs.take (i + 1)) = mx (maxL (zs.take i)) (zs.getD i 0) := by
  unfold maxL
  rw [List.take_add_one, List.foldl_append]
  simp [List.getD, List.getElem?_eq_getElem h]
theorem count_snoc (zs : List Int) (i : Nat) (h : i < zs.length) (c : Int) : (zs.take (i + 1)).countP (fun z => decide (z ≤ c)) = (zs.take i).countP (fun z => decide (z ≤ c)) + if zs.getD i 0 ≤ c then 1 else 0 := by
  rw [List.take_add_one, List.countP_append, List.getElem?_eq_getElem h]
  simp [List.getD, List.getElem?_eq_getElem h, List.countP_cons]
theorem bins_count (zs : List Int) (hz : ∀ z ∈ zs, 0 ≤ z ∧ z ≤ 18446744073709551615) (j : Nat) : (binsOf zs).countP (fun k => decide (k < j + 1)) = zs.countP (fun z => decide (z ≤ topN j)) := by
  unfold binsOf
  rw [List.countP_map]
  refine List.countP_congr fun z hm => ?_
  obtain ⟨n, rfl⟩ := Int.eq_ofNat_of_zero_le (hz z hm).1
  have := topN_ge (n := n) (k := j)
  have e : (lenS (n : Int)).toNat = lenN n := by simp [lenS]
  show decide ((lenS (n : Int)).toNat < j + 1) = true ↔ decide ((n : Int) ≤ topN j) = true
  rw [e, decide_eq_true_eq, decide_eq_true_eq, this]
  omega
/-- What the percents tell of times. -/
theorem told_all (zs : List Int) (hz : ∀ z ∈ zs, 0 ≤ z ∧ z ≤ 18446744073709551615) (h0 : 0 < zs.length) (h : zs.length ≤ 100) {p : Int} (hp : 1 ≤ p) (hp' : p ≤ 100) :
    ∃ i j, i ≤ 64 ∧ j ≤ 64 ∧ pctX (cntL (binsOf zs)) (clampP 100) = topN i ∧ pctX (cntL (binsOf zs)) (clampP p) = topN j ∧ pctB (cntL (binsOf zs)) (clampP p) = true ∧
      maxL zs ≤ topN i ∧ (topN i = 0 ∨ topN i / 2 < maxL zs) ∧ p * zs.length ≤ 100 * (zs.countP (fun z => decide (z ≤ topN j)) : Nat) := by
  have hl : (binsOf zs).length ≤ 1000 := by rw [binsOf_len]; omega
  have hK := binsOf_lt hz
  have e100 : clampP 100 = 100 := rfl
  have ep : clampP p = p := by unfold clampP; rw [if_neg (by omega), if_neg (by omega)]
  obtain ⟨i, hi⟩ := pct_there hl hK (by rw [binsOf_len]; exact h0) (p := 100) (by omega) (by omega)
  obtain ⟨j, hj⟩ := pct_there hl hK (by rw [binsOf_len]; exact h0) hp hp'
  obtain ⟨i1, i2, i3⟩ := pctN_inv hi
  obtain ⟨j1, j2, j3⟩ := pctN_inv hj
  refine ⟨i, j, by omega, by omega, by rw [e100]; unfold pctX; rw [hi], by rw [ep]; unfold pctX; rw [hj], by rw [ep]; unfold pctB; rw [hj]; rfl, ?_, ?_, ?_⟩
  · rw [okP_cnt hl hK (by omega) i1, bins_count zs hz, binsOf_len] at i2
    have hc : zs.countP (fun z => decide (z ≤ topN i)) ≤ zs.length := List.countP_le_length
    have he : zs.countP (fun z => decide (z ≤ topN i)) = zs.length := by omega
    rw [List.countP_eq_length] at he
    exact mx_le zs 0 (topN_bd (by omega)).1 (fun z hm => by simpa using he z hm)
  · cases i with
    | zero => exact .inl rfl
    | succ i =>
      right
      have hn := i3 i (by omega)
      have hc : zs.countP (fun z => decide (z ≤ topN i)) ≤ zs.length := List.countP_le_length
      have hne : zs.countP (fun z => decide (z ≤ topN i)) ≠ zs.length := by
        intro he
        have := (okP_cnt hl hK (p := 100) (by omega) (i := i) (by omega)).2 (by rw [bins_count zs hz, binsOf_len, he]; omega)
        rw [hn] at this
        cases this
      rw [ne_eq, List.countP_eq_length] at hne
      obtain ⟨z, hm, hlt⟩ : ∃ z, z ∈ zs ∧ topN i < z := Classical.byContradiction fun hno => hne fun z hm => by
        have : ¬ topN i < z := fun hc => hno ⟨z, hm, hc⟩
        simp; omega
      rw [topN_half]
      exact Int.lt_of_lt_of_le hlt ((mx_ge zs 0).2 z hm)
  · rw [okP_cnt hl hK hp j1, bins_count zs hz, binsOf_len] at j2
    exact j2.2

set_option maxRecDepth 100000 in
set_option maxHeartbeats 2000000 in
theorem walk (w : World) (a0 : Option Addr) (l0 k0 : Nat) (L0 : List (List Value)) (w0 : SliceIn w [.int .u64] 8 a0 l0 k0 L0) (a1 : Int) (w1 : (Lit.int .u8 a1).wf = true) :
    Calls Try.prog 6 #[.slice a0 l0 k0, .int .u8 a1] w fun e w' => e = .returned (.bool true) ∧ Below w.heap.size w w' := by
  obtain ⟨zs, hzl, hrow⟩ := w0.row
  have b1 := bounds_u8 w1
  have hz : ∀ z ∈ zs, 0 ≤ z ∧ z ≤ 18446744073709551615 := fun z hz => wf_u64 (hrow.2.2.2 z hz)
  have hml := hrow.2.1
  unfold maxLen at hml
  have HROW := Lib.hid hrow
  have HZL := Lib.hid hzl
  have HZ := Lib.hid hz
  clear w0 w1 hrow hzl hz
  by_cases h0 : l0 = 0
  · have h0' : ((l0 : Int) == 0) = true := by simp; omega
    go_enter Try.func6, Try.ntmps6
    go_wp2_with fail
    refine (awake_any _).mono ?_
    rintro r wa ⟨rfl, hba⟩
    have HA := Lib.hid hba
    clear hba
    go_wp2
    go_ret
    exact ⟨rfl, HA.out⟩
  · have h0' : ((l0 : Int) == 0) = false := by simp; omega
    by_cases h1 : 100 < l0
    · have h1' : (100 : Int) < (l0 : Int) := by omega
      go_enter Try.func6, Try.ntmps6
      go_wp2_with fail
      refine (awake_any _).mono ?_
      rintro r wa ⟨rfl, hba⟩
      have HA := Lib.hid hba
      clear hba
      go_wp2
      go_ret
      exact ⟨rfl, HA.out⟩
    · have h1' : ¬ (100 : Int) < (l0 : Int) := by omega
      obtain ⟨p, hp⟩ : ∃ p, 1 + a1 % 100 = p := ⟨_, rfl⟩
      have hpb : 1 ≤ p ∧ p ≤ 100 := by omega
      obtain ⟨i, j, hi, hj, hxi, hxj, hyj, hmost, hhalf, hmany⟩ := told_all zs HZ.out (by have := HZL.out; omega) (by have := HZL.out; omega) hpb.1 hpb.2
      have hti := topN_bd hi
      have htj := topN_bd hj
      obtain ⟨b100, hb100⟩ : ∃ y, pctB (cntL (binsOf zs)) (clampP 100) = y := ⟨_, rfl⟩
      have ht100 : zs.take 100 = zs := List.take_of_length_le (by have := HZL.out; omega)
      have hnl : (notes zs).length ≤ 1000 := by rw [notes_len]; have := HZL.out; omega
      rw [HZL.out] at hmany
      generalize topN i = top at *
      generalize topN j = at_ at *
      obtain ⟨pl, hpl⟩ : ∃ pl, p * (l0 : Int) = pl := ⟨_, rfl⟩
      have hplb : 0 ≤ pl ∧ pl ≤ 10000 := by
        rw [← hpl]
        have h2 := Int.mul_le_mul hpb.2 (show (l0 : Int) ≤ 100 by omega) (by omega) (by omega)
        have h3 := Int.mul_nonneg (show 0 ≤ p by omega) (show (0 : Int) ≤ l0 by omega)
        omega
      rw [hpl] at hmany
      have HMOST := Lib.hid hmost
      have HHALF := Lib.hid hhalf
      have HMANY := Lib.hid hmany
      have HXI := Lib.hid hxi
      have HXJ := Lib.hid hxj
      have HYJ := Lib.hid hyj
      have HB := Lib.hid hb100
      have HT := Lib.hid ht100
      have HNL := Lib.hid hnl
      have HTN := Lib.hid (told_notes zs)
      clear hmost hhalf hmany hxi hxj hyj hb100 ht100 hnl
      go_enter Try.func6, Try.ntmps6
      go_wp2_with fail
      refine (awake_any _).mono ?_
      rintro r wa ⟨rfl, hba⟩
      have HA := Lib.hid hba
      clear hba
      go_wp2_with fail
      refine (noted_any w wa a0 l0 k0 zs HROW.out HZL.out HA.out).mono ?_
      rintro r w1 ⟨b, rfl, h1⟩
      rw [HT.out] at h1
      have H1 := Lib.hid h1
      clear h1
      go_wp2_with fail
      refine (oh_pct w b 2 10 0 5 100 _ w1 0 _ top _ H1.out (by omega) (by omega) (by omega) rfl HTN.out HNL.out HXI.out HB.out).mono ?_
      rintro r w2 ⟨rfl, _, h2⟩
      have H2 := Lib.hid h2
      clear h2
      go_wp2_with fail
      refine (oh_pct w b 2 10 0 5 p _ w2 0 _ at_ _ H2.out (by omega) (by omega) (by omega) rfl HTN.out HNL.out HXJ.out HYJ.out).mono ?_
      rintro r w3 ⟨rfl, _, h3⟩
      have H3 := Lib.hid h3
      have hrow3 := HROW.out.later h3.low
      have HR3 := Lib.hid hrow3
      clear h3 hrow3
      go_wp2
      go_loop [12, 13, 14] (fun v12 v13 v14 => ∃ n : Nat, n ≤ l0 ∧ v14 = .int .i64 n ∧ v12 = .int .u64 (maxL (zs.take n)) ∧ v13 = .int .i64 (((zs.take n).countP (fun z => decide (z ≤ at_)) : Nat) : Int)) (fun _ _ v14 => l0 - (intOf v14).toNat)
      case atStart => exact ⟨0, by omega, rfl, rfl, rfl⟩
      case round =>
        obtain ⟨n, hn, rfl, rfl, rfl⟩ := hrel
        have hcb : (zs.take n).countP (fun z => decide (z ≤ at_)) ≤ 100 := Nat.le_trans List.countP_le_length (by rw [List.length_take]; omega)
        have hmb : 0 ≤ maxL (zs.take n) ∧ maxL (zs.take n) ≤ 18446744073709551615 := ⟨(mx_ge _ 0).1, mx_le _ 0 (by omega) (fun z hz => (HZ.out z (List.mem_of_mem_take hz)).2)⟩
        by_cases hlt : n < l0
        · have hlt' : (n : Int) < l0 := by omega
          obtain ⟨hz, _, hc0, hwf⟩ := HR3.out
          obtain ⟨blk, off, rfl, hc⟩ : ∃ b off, a0 = some ⟨b, off, none⟩ ∧ ∀ j, j < zs.length → w3.cell? ⟨b, off + j, none⟩ = some (.int .u64 (zs.getD j 0)) := by
            rcases hc0 with h | h
            · omega
            · exact h
          have hcell := hc n (by omega)
          have hzn := wf_u64 (wf_getD hwf (j := n) (by omega))
          have hms := maxL_snoc zs n (by omega)
          have hcs := count_snoc zs n (by omega) at_
          generalize zs.getD n 0 = z at *
          obtain ⟨m', hm'⟩ : ∃ m', mx (maxL (zs.take n)) z = m' := ⟨_, rfl⟩
          rw [hm'] at hms
          have hmi : (if maxL (zs.take n) < z then z else maxL (zs.take n)) = m' := hm'
          have HMS := Lib.hid hms
          generalize maxL (zs.take n) = m0 at *
          generalize (zs.take n).countP (fun z => decide (z ≤ at_)) = c0 at *
          have HCS := Lib.hid hcs
          clear hc hc0 hwf hz hms hcs hm'
          by_cases hle : z ≤ at_
          · go_wp2
            go_round
            case rel => exact ⟨n + 1, by omega, by go_num, by rw [HMS.out], by rw [HCS.out, if_pos hle]; go_num⟩
            case measure => simp [intOf]; omega
          · go_wp2
            go_round
            case rel => exact ⟨n + 1, by omega, by go_num, by rw [HMS.out], by rw [HCS.out, if_neg hle]; go_num⟩
            case measure => simp [intOf]; omega
        · have hlt' : ¬ (n : Int) < l0 := by omega
          obtain rfl : n = l0 := by omega
          have htk : zs.take n = zs := List.take_of_length_le (by have := HZL.out; omega)
          rw [htk] at hmb hcb ⊢
          have hmost := HMOST.out
          have hhalf := HHALF.out
          have hmany := HMANY.out
          generalize maxL zs = m0 at *
          generalize zs.countP (fun z => decide (z ≤ at_)) = c0 at *
          clear htk
          by_cases ht0 : top = 0
          · have ht0' : (top == 0) = true := by simp [ht0]
            clear hhalf
            go_wp2
            go_ret
            exact ⟨rfl, H3.out.low⟩
          · have ht0' : (top == 0) = false := by simp [ht0]
            have hhalf : top / 2 < m0 := by rcases hhalf with h | h; exact absurd h ht0; exact h
            go_wp2
            go_ret
            exact ⟨rfl, H3.out.low⟩

set_option maxRecDepth 100000 in
theorem lifted (os : Os) (started : os.Started) (H : Type) (enc : TypeId × Value → H) :
    ReturnsInHanded {} Try.checked os 6 .any (Rows.histAllSpec.pre6 enc Try.prog Try.f6 Rows.histAllRow.domain false) (Rows.histAllSpec.post enc Try.prog Try.f6 false true false false) := by
  refine returnsInHanded_of_change_sized (C := Try.checked) own started (by kernel_rfl) Try.func6
    (ChangeSpec.witness6 (enc := enc) (C := Try.checked) false ⟨#[], #[.slice none 0 0, .int .u8 0], []⟩ 8 (by kernel_rfl) (by kernel_rfl) (by kernel_rfl) (by kernel_rfl)) ?_
  intro W base args ds gs before hval0 hW hcnd hsz0 _
  have hval : ∀ (j : Nat) t v, Try.f6.params[j]? = some t → args[j]? = some v → Value.okWide Try.prog W .any base t v := hval0
  have hsz : (DataW.weightsEach Try.prog (Try.f6.params.toList ++ Rows.histAllSpec.plain.varTypes Try.prog) (ds ++ gs)).all (· ≤ reachBytes) = true := hsz0
  have hW' := hW
  obtain ⟨p, q, hA0, hV, rfl, hfz, hnd⟩ := hW
  have hA : DataW.TrodAll enc Try.prog W 0 (fun _ => true) true Try.f6.params.toList args.toList ds p := hA0
  rw [Try.params6] at hA hval hsz
  have hAk := hA
  obtain ⟨v0, vs0, d0, ds0, p0, q0, hargs, rfl, rfl, h0, r0⟩ := trodAll_cons hA
  obtain ⟨v1, vs1, d1, ds1, p1, q1, rfl, rfl, rfl, h1, r1⟩ := trodAll_cons r0
  obtain ⟨rfl, rfl, rfl⟩ := trodAll_nil r1
  obtain rfl : args = #[v0, v1] := by cases args; simp_all
  obtain ⟨rfl, rfl⟩ := trodVars_none hV
  obtain ⟨a0, l0, k0, L0, rfl, w0⟩ := open_slice_flat (ks := [.int .u64]) (bytes := 8) 8 Try.underlying32 (by kernel_rfl) (by kernel_rfl) (by decide) (by kernel_rfl) (hval 0 32 v0 rfl rfl) h0 (fun elems rest hd => by subst hd; exact sized_slice hsz (j := 0) (t := 32) (e := 22) rfl rfl Try.underlying32)
  obtain ⟨a1, rfl, rfl, rfl, w1⟩ := open_int Try.underlying5 (hval 1 5 v1 rfl rfl) h1
  clear hA0 hval0 hsz0
  refine (walk W a0 l0 k0 L0 w0 a1 w1).mono fun e W' ⟨he, bel⟩ => ?_
  subst he
  exact ⟨_, rfl, _, _, _, [], _, [], hW', trodAll_mk1 (shut_bool Try.underlying4 _), trodAll_below laidOut bel _ _ _ _ (by kernel_rfl) hAk, rfl, bel.frame _, fun h => by cases h⟩

theorem over : Rows.histAllRow.holds Try.pinned (OpenSpec.ofChange Rows.histAllSpec) :=
  OpenClaim.holds_of_wide 6 Try.f6 rfl rfl rfl rfl rfl rfl rfl ⟨rfl, rfl, rfl, rfl, rfl⟩ rfl rfl rfl rfl rfl (by kernel_rfl) Try.func6 (by kernel_rfl)
    (of_decide_eq_true (by kernel_rfl)) (by unfold Func.isWrapper; first | (rw [if_pos (by decide +kernel)]; kernel_rfl) | (rw [if_neg (by decide +kernel)]; exact ⟨rfl, rfl⟩))
    (fun os started H enc _ => lifted os started H enc)

theorem proved : Rows.HistAllSaid := over
#print axioms proved
end Go.Proofs.Ytpheifdneafkhaa.histAll
