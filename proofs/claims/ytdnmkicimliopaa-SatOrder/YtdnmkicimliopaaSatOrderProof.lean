/- What is proved: SatOrder of porpoiselaw01 answers true for every input, and leaves its arguments as they were; conditions: those of the given row alone. -/
import Derived.Test.YtdnmkicimliopaaKit
import Derived.Test.YtdnmkicimliopaaRef01
namespace Go.Proofs.Ytdnmkicimliopaa.satOrder
open Go.ChangeShapes Go.WideShapes Go.ChangeAt Go.RowKit Go.Deep
open Go.ChangeMaps (open_string shut_string)
set_option linter.unusedVariables false

theorem own : ownKnob Try.prog.godebug = none := by kernel_rfl
theorem laidOut : laidOutB Try.prog = true := by kernel_rfl

theorem Try.infoU : (Try.prog.info? 22).map (fun i => (i.zero, i.size, i.bytes)) = some (some (.int .u64 0), 1, 8) := by kernel_rfl
theorem fold_closed : ∀ (l : List Int) (s : Int), (∀ n ∈ l, 0 ≤ n) → 0 ≤ s → s ≤ 18446744073709551615 → l.foldl addS s = if s + l.sum ≤ 18446744073709551615 then s + l.sum else 18446744073709551615
  | [], s, _, h0, h1 => by simp [h1]
  | n :: l, s, h, h0, h1 => by
    have hn := h n (by simp)
    have hl : 0 ≤ l.sum := by
      have : ∀ m : List Int, (∀ n ∈ m, 0 ≤ n) → 0 ≤ m.sum := by
        intro m
        induction m with
        | nil => intro _; simp
        | cons a m ih => intro hm; have := ih (fun x hx => hm x (by simp [hx])); have := hm a (by simp); simp; omega
      exact this l (fun x hx => h x (by simp [hx]))
    have hb := addS_bd h0 hn
    rw [List.foldl_cons, fold_closed l _ (fun x hx => h x (by simp [hx])) hb.1 hb.2, List.sum_cons]
    unfold addS
    by_cases h2 : s + n ≤ 18446744073709551615
    · rw [if_pos h2, Int.add_assoc]
    · rw [if_neg h2]
      split <;> split <;> omega
theorem sum_rev (l : List Int) (h : ∀ n ∈ l, 0 ≤ n) : sumS l.reverse = sumS l := by
  unfold sumS
  rw [fold_closed _ _ (fun n hn => h n (by simpa using hn)) (by omega) (by omega), fold_closed _ _ h (by omega) (by omega), List.sum_reverse]
theorem add_comm' (a b : Int) : addS a b = addS b a := by unfold addS; rw [Int.add_comm]
theorem mul_comm' (a b : Int) : mulS a b = mulS b a := by unfold mulS; rw [Int.mul_comm]
/-- What the loop has gathered: the last len - k numbers, the last one first. -/
def Back (zs : List Int) (k : Nat) : List Int := (zs.drop k).reverse
theorem back_step (zs : List Int) (k : Nat) (hk : k < zs.length) : Back zs k = Back zs (k + 1) ++ [zs.getD k 0] := by
  unfold Back
  rw [List.drop_eq_getElem_cons hk, List.reverse_cons]
  simp [List.getD, List.getElem?_eq_getElem hk]
theorem back_length (zs : List Int) (k : Nat) : (Back zs k).length = zs.length - k := by simp [Back]

theorem walk (w : World) (a0 : Option Addr) (l0 k0 : Nat) (L0 : List (List Value)) (w0 : SliceIn w [.int .u64] 8 a0 l0 k0 L0) (a1 : Int) (w1 : (Lit.int .u64 a1).wf = true) (a2 : Int) (w2 : (Lit.int .u64 a2).wf = true) :
    Calls Try.prog 5 #[.slice a0 l0 k0, .int .u64 a1, .int .u64 a2] w fun e w' => e = .returned (.bool true) ∧ Below w.heap.size w w' := by
  obtain ⟨zs, hzl, hwf, hlc, hcb, hcm, hcell⟩ := w0.ints
  obtain ⟨_, _, r0⟩ := w0.row
  have b1 := wf_u64 w1
  have b2 := wf_u64 w2
  have hlen : l0 * 8 ≤ 140737488351232 := by omega
  clear w0 w1 w2
  have HC := Lib.hid hcell
  have HW := Lib.hid hwf
  have HL := Lib.hid hzl
  have hle : l0 ≤ zs.length := by omega
  have hge : zs.length ≤ l0 := by omega
  clear hcell hwf hzl r0 hcm hcb hlc
  obtain ⟨i0, hi, hz0, hz1, hz2⟩ := info_parts Try.infoU
  go_enter Try.func5, Try.ntmps5
  go_wp2_with (go_at_call 9; refine (awake_any _).mono ?_; rintro e w' ⟨rfl, rfl⟩)
  go_loopw [8, 9] (fun v i wr => ∃ (k : Nat) (x : Value), x = v ∧ k ≤ l0 ∧ i = .int .i64 ((k : Int) - 1) ∧ wr.ownsRow w.heap.size 22 1 v (Back zs k).length ((Back zs k).map (Value.int .u64)) ∧ Below w.heap.size w wr) (fun _ i _ => (intOf i + 1).toNat)
  case atStart =>
    refine ⟨l0, _, rfl, Nat.le_refl _, rfl, ?_, (Below.refl _ _).alloc (Nat.le_refl _) _⟩
    have : Back zs l0 = [] := by unfold Back; rw [List.drop_of_length_le (by omega)]; rfl
    rw [this]
    exact World.ownsRow_nil _ _ _ _
  case round =>
    obtain ⟨k, v, rfl, hk, rfl, hown, hbel⟩ := hrel
    have hsz := hbel.size
    rcases Nat.eq_zero_or_pos k with h0 | h0
    · subst h0
      have hB : Back zs 0 = zs.reverse := by unfold Back; simp
      rw [hB] at hown
      have hr0 : Row .u64 wr a0 l0 zs := by
        refine ⟨by omega, by unfold maxLen; omega, ?_, HW.out⟩
        rcases HC.out with h | ⟨b, off, e, _, hc⟩
        · exact .inl h
        · exact .inr ⟨b, off, e, fun j hj => cell_later hbel (hc j hj)⟩
      have hr1 : ∃ a n cap, Hid (v = .slice a n cap) ∧ Row .u64 wr a n zs.reverse ∧ n = zs.length := by
        rcases hown.2 with ⟨e, hn⟩ | ⟨g, cap, cur, e, _, hh, hnc, hcm, hcs, htk⟩
        · simp at hn
          subst hn
          exact ⟨none, 0, 0, Lib.hid e, ⟨by simp, by decide, .inl rfl, by simp⟩, rfl⟩
        · refine ⟨_, _, _, Lib.hid e, ⟨by simp, by unfold maxLen; simp; omega, .inr ⟨g, 0, rfl, fun j hj => ?_⟩, by simpa using HW.out⟩, by simp⟩
          subst e
          have := hown.cellAt j (by simpa using hj)
          rw [Nat.zero_add, this]
          simp at hj
          simp [List.getD, hj]
      obtain ⟨a, n, cap, hv, hr1, hn⟩ := hr1
      have hv' := hv.out
      subst hv' 
      have hs := Lib.hid (sum_rev zs (fun x hx => (wf_u64 (HW.out x hx)).1))
      have ht1 : zs.take l0 = zs := List.take_of_length_le (by omega)
      have ht2 : zs.reverse.take n = zs.reverse := List.take_of_length_le (by simp; omega)
      have T1 := Lib.hid ht1
      have T2 := Lib.hid ht2
      have A1 := Lib.hid (add_comm' a1 a2)
      have A2 := Lib.hid (mul_comm' a1 a2)
      clear hB ht1 ht2 hn hv hown
      go_wp2_with fail
      refine (sum_any _ _ _ zs _ hr0).mono ?_
      rintro e w' ⟨rfl, rfl⟩
      rw [T1.out]
      go_wp2_with fail
      refine (sum_any _ _ _ zs.reverse _ hr1).mono ?_
      rintro e w' ⟨rfl, rfl⟩
      rw [T2.out, hs.out]
      go_wp2_with (first | (go_at_call 10; refine (add_any _ _ _ (by omega) (by omega) (by omega) (by omega)).mono ?_; rintro e w' ⟨rfl, rfl⟩; (try rw [A1.out])) | (go_at_call 14; refine (mul_any _ _ _ (by omega) (by omega) (by omega) (by omega)).mono ?_; rintro e w' ⟨rfl, rfl⟩; (try rw [A2.out])))
      go_ret
      exact ⟨ret_bool (by simp), hbel⟩
    · obtain ⟨m, rfl⟩ : ∃ m, k = m + 1 := ⟨k - 1, by omega⟩
      rw [show ((m + 1 : Nat) : Int) - 1 = m from by omega]
      obtain ⟨b, off, rfl, hlt, hc⟩ : ∃ b off, a0 = some ⟨b, off, none⟩ ∧ b < w.heap.size ∧ ∀ j, j < zs.length → w.cell? ⟨b, off + j, none⟩ = some (.int .u64 (zs.getD j 0)) := by
        rcases HC.out with h | h
        · omega
        · exact h
      have hcl : wr.cell? ⟨b, off + m, none⟩ = some (.int .u64 (zs.getD m 0)) := cell_later hbel (hc m (by omega))
      have hst := Lib.hid (back_step zs m (by omega))
      have hbl := back_length zs (m + 1)
      have hbl' := back_length zs m
      have HB := Lib.hid hbl
      have HB' := Lib.hid hbl'
      have hbb : (Back zs (m + 1)).length + 1 ≤ l0 := by omega
      generalize zs.getD m 0 = z at *
      clear hc HC hbl hbl'
      go_wp2_with (at_builtin; refine wpList_append_own _ rfl _ _ 23 rfl w.heap.size 22 i0 (.int .u64 0) 1 8 Try.underlying23 hi hz0 hz1 hz2 rfl (by decide) _ _ _ rfl (hown.alloc _) ⟨wr.heap.size, 0, none⟩ 1 1 [.int .u64 z] rfl rfl ?c1 ?c2 ?c3 ?c4 ?c5 ?_)
      case c1 =>
        intro j u hj
        match j, hj with
        | 0, hj => simp at hj; subst hj; simp [Addr.add]
      case c2 => intro u hu; simp at hu; subst hu; rfl
      case c3 => unfold maxLen; omega
      case c4 => omega
      case c5 => simp; omega
      intro v' w1 hown' hgrow _
      have hbel' : Below w.heap.size w w1 := (hbel.alloc hsz _).grown hgrow (by simp; omega) (fun k e => (hown.lt k e).1)
      have hown2 : w1.ownsRow w.heap.size 22 1 v' (Back zs m).length ((Back zs m).map (Value.int .u64)) := by
        have e := hst.out
        rw [e]
        simpa using hown'
      clear hown hown' hgrow hbel hcl
      go_wp2
      go_roundw
      case rel => exact ⟨m, _, rfl, by omega, by go_num, hown2, hbel'⟩
      case measure => simp [intOf]

set_option maxRecDepth 100000 in
theorem lifted (os : Os) (started : os.Started) (H : Type) (enc : TypeId × Value → H) :
    ReturnsInHanded {} Try.checked os 5 .any (Rows.satOrderSpec.pre6 enc Try.prog Try.f5 Rows.satOrderRow.domain false) (Rows.satOrderSpec.post enc Try.prog Try.f5 false true false false) := by
  refine returnsInHanded_of_change_sized (C := Try.checked) own started (by kernel_rfl) Try.func5
    (ChangeSpec.witness6 (enc := enc) (C := Try.checked) false ⟨#[], #[.slice none 0 0, .int .u64 0, .int .u64 0], []⟩ 8 (by kernel_rfl) (by kernel_rfl) (by kernel_rfl) (by kernel_rfl)) ?_
  intro W base args ds gs before hval0 hW hcnd hsz0 _
  have hval : ∀ (j : Nat) t v, Try.f5.params[j]? = some t → args[j]? = some v → Value.okWide Try.prog W .any base t v := hval0
  have hsz : (DataW.weightsEach Try.prog (Try.f5.params.toList ++ Rows.satOrderSpec.plain.varTypes Try.prog) (ds ++ gs)).all (· ≤ reachBytes) = true := hsz0
  have hW' := hW
  obtain ⟨p, q, hA0, hV, rfl, hfz, hnd⟩ := hW
  have hA : DataW.TrodAll enc Try.prog W 0 (fun _ => true) true Try.f5.params.toList args.toList ds p := hA0
  rw [Try.params5] at hA hval hsz
  have hAk := hA
  obtain ⟨v0, vs0, d0, ds0, p0, q0, hargs, rfl, rfl, h0, r0⟩ := trodAll_cons hA
  obtain ⟨v1, vs1, d1, ds1, p1, q1, rfl, rfl, rfl, h1, r1⟩ := trodAll_cons r0
  obtain ⟨v2, vs2, d2, ds2, p2, q2, rfl, rfl, rfl, h2, r2⟩ := trodAll_cons r1
  obtain ⟨rfl, rfl, rfl⟩ := trodAll_nil r2
  obtain rfl : args = #[v0, v1, v2] := by cases args; simp_all
  obtain ⟨rfl, rfl⟩ := trodVars_none hV
  obtain ⟨a0, l0, k0, L0, rfl, w0⟩ := open_slice_flat (ks := [.int .u64]) (bytes := 8) 8 Try.underlying23 (by kernel_rfl) (by kernel_rfl) (by decide) (by kernel_rfl) (hval 0 23 v0 rfl rfl) h0 (fun elems rest hd => by subst hd; exact sized_slice hsz (j := 0) (t := 23) (e := 22) rfl rfl Try.underlying23)
  obtain ⟨a1, rfl, rfl, rfl, w1⟩ := open_int Try.underlying22 (hval 1 22 v1 rfl rfl) h1
  obtain ⟨a2, rfl, rfl, rfl, w2⟩ := open_int Try.underlying22 (hval 2 22 v2 rfl rfl) h2
  clear hA0 hval0 hsz0
  refine (walk W a0 l0 k0 L0 w0 a1 w1 a2 w2).mono fun e W' ⟨he, bel⟩ => ?_
  subst he
  exact ⟨_, rfl, _, _, _, [], _, [], hW', trodAll_mk1 (shut_bool Try.underlying4 _), trodAll_below laidOut bel _ _ _ _ (by kernel_rfl) hAk, rfl, bel.frame _, fun h => by cases h⟩

theorem over : Rows.satOrderRow.holds Try.pinned (OpenSpec.ofChange Rows.satOrderSpec) :=
  OpenClaim.holds_of_wide 5 Try.f5 rfl rfl rfl rfl rfl rfl rfl ⟨rfl, rfl, rfl, rfl, rfl⟩ rfl rfl rfl rfl rfl (by kernel_rfl) Try.func5 (by kernel_rfl)
    (of_decide_eq_true (by kernel_rfl)) (by unfold Func.isWrapper; first | (rw [if_pos (by decide +kernel)]; kernel_rfl) | (rw [if_neg (by decide +kernel)]; exact ⟨rfl, rfl⟩))
    (fun os started H enc _ => lifted os started H enc)

theorem proved : Rows.SatOrderSaid := over
#print axioms proved
end Go.Proofs.Ytdnmkicimliopaa.satOrder
