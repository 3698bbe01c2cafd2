/- Layer 7: hists made since a world, by what was noted; the examples' check; a hist behind notes. -/
import Derived.Test.YtpheifdneafkhaaHisCnt
import Derived.Test.YtpheifdneafkhaaSame
namespace Go.Proofs.Ytpheifdneafkhaa
set_option linter.unusedVariables false
open Go.ChangeShapes Go.WideShapes Go.ChangeAt Go.RowKit

/-- A hist that was made since w0, in which L was noted, and nothing of w0 has turned. -/
structure OwH (w0 w : World) (b B W t : Nat) (L : List (Nat × Nat)) : Prop where
  his : His w b B W t (cntF L)
  low : Below w0.heap.size w0 w
  new : w0.heap.size ≤ b
section
variable {w0 w w' : World} {b B W t t' : Nat} {L L' : List (Nat × Nat)}
theorem OwH.after (h : OwH w0 w b B W t L) (hf : Frm (· = b) w w') (hw : His w' b B W t' (cntF L')) : OwH w0 w' b B W t' L' :=
  ⟨hw, h.low.trans (hf.below h.low.size (fun j hj e => by have := h.new; omega)), h.new⟩
theorem OwH.below (h : OwH w0 w b B W t L) (hb : Below w.heap.size w w') : OwH w0 w' b B W t L :=
  ⟨h.his.below hb, h.low.trans (hb.mono h.low.size), h.new⟩
theorem OwH.beside (h : OwH w0 w b B W t L) {c : Nat} (hf : Frm (· = c) w w') (hc : w0.heap.size ≤ c) (hn : b ≠ c) : OwH w0 w' b B W t L :=
  ⟨h.his.frm hf hn, h.low.trans (hf.below h.low.size (fun j hj e => by omega)), h.new⟩
theorem OwH.ali (h : OwH w0 w b B W t L) (ha : Ali w w') : OwH w0 w' b B W t L := h.below (ali_below ha)
end
theorem oh_new (w0 w : World) (B W : Nat) (h1 : 1 ≤ B) (h8 : B ≤ 8) (hW : 1 ≤ W) (hW' : W ≤ 1099511627776) (hl : Below w0.heap.size w0 w) :
    Calls Try.prog 16 #[.int .i64 B, .int .u64 W] w fun r w' => r = .returned (.pointer (some ⟨w.heap.size, 0, none⟩)) ∧ OwH w0 w' w.heap.size B W 0 [] ∧ Below w.heap.size w w' :=
  (new_his B W w h1 h8 hW hW').mono fun r w' ⟨hr, hw, hb⟩ => ⟨hr, ⟨hw, hl.trans (hb.mono hl.size), hl.size⟩, hb⟩
theorem oh_add (w0 : World) (b B W t now k : Nat) (took : Int) (L : List (Nat × Nat)) (w : World) (t' : Nat) (L' : List (Nat × Nat)) (h : OwH w0 w b B W t L) (hn : now ≤ 18446744073709551615) (h0 : 0 ≤ took) (h1 : took ≤ 18446744073709551615) (hk : lenS took = k)
    (ht : max (now / W) t = t') (hL : L ++ [(t', k)] = L') (hlen : L.length ≤ 1000) :
    Calls Try.prog 17 #[.pointer (some ⟨b, 0, none⟩), .int .u64 now, .int .u64 took] w fun r w' => r = .returned (.tuple #[]) ∧ Frm (· = b) w w' ∧ OwH w0 w' b B W t' L' := by
  subst hL ht
  exact (hadd_his b B W t now k took (cntF L) w h.his hn h0 h1 hk).mono fun r w' ⟨hr, hf, hw⟩ => ⟨hr, hf, h.after hf (by rw [cntF_add L _ k hlen] at hw; exact hw)⟩
theorem oh_all (w0 : World) (b B W t now : Nat) (L : List (Nat × Nat)) (w : World) (t' : Nat) (K : List Nat) (h : OwH w0 w b B W t L) (hn : now ≤ 18446744073709551615) (ht : max (now / W) t = t') (hK : told t' B L = K) (hlen : L.length ≤ 1000) :
    Calls Try.prog 18 #[.pointer (some ⟨b, 0, none⟩), .int .u64 now] w fun r w' => r = .returned (.agg (arrU (cntL K))) ∧ Frm (· = b) w w' ∧ OwH w0 w' b B W t' L := by
  subst hK ht
  exact (hall_his b B W t now (cntF L) w h.his hn).mono fun r w' ⟨hr, hf, hw⟩ => ⟨by rw [hr, allL_cnt L _ _ hlen], hf, h.after hf hw⟩
theorem oh_pct (w0 : World) (b B W t now : Nat) (percent : Int) (L : List (Nat × Nat)) (w : World) (t' : Nat) (K : List Nat) (x : Int) (y : Bool) (h : OwH w0 w b B W t L) (hn : now ≤ 18446744073709551615) (hp : -9223372036854775808 ≤ percent) (hp' : percent ≤ 9223372036854775807)
    (ht : max (now / W) t = t') (hK : told t' B L = K) (hlen : L.length ≤ 1000) (hx : pctX (cntL K) (clampP percent) = x) (hy : pctB (cntL K) (clampP percent) = y) :
    Calls Try.prog 15 #[.pointer (some ⟨b, 0, none⟩), .int .u64 now, .int .i64 percent] w fun r w' => r = .returned (.tuple #[.int .u64 x, .bool y]) ∧ Frm (· = b) w w' ∧ OwH w0 w' b B W t' L := by
  subst hx hy
  have hl : K.length ≤ 1000 := by rw [← hK]; exact Nat.le_trans (told_len _ _ _) hlen
  refine (pct_of (some ⟨b, 0, none⟩) now percent (cntL K) (fun w1 => Frm (· = b) w w1 ∧ OwH w0 w1 b B W t' L) w (cntL_ok K hl) hp hp' (oh_all w0 b B W t now L w t' K h hn ht hK hlen)).mono ?_
  rintro r w' ⟨hr, w1, ⟨hf, ho⟩, hb⟩
  exact ⟨hr, hf.then_below hb, ho.below hb⟩
theorem cntL_none : cntL [] = z65 := by
  apply List.ext_getElem?
  intro i
  by_cases hi : i < 65
  · rw [cntL_at _ hi, z65_at hi]; rfl
  · rw [List.getElem?_eq_none (by rw [cntL_len]; omega), List.getElem?_eq_none (by rw [z65_len]; omega)]
theorem pct_nil (now percent : Int) (w : World) (hp : -9223372036854775808 ≤ percent) (hp' : percent ≤ 9223372036854775807) :
    Calls Try.prog 15 #[.pointer none, .int .u64 now, .int .i64 percent] w fun r w' => r = .returned (.tuple #[.int .u64 0, .bool false]) ∧ Below w.heap.size w w' := by
  refine (pct_of none now percent (cntL []) (fun w1 => Below w.heap.size w w1) w (cntL_ok [] (by simp)) hp hp' (by rw [cntL_none]; exact hall_nil now w)).mono ?_
  rintro r w' ⟨hr, w1, hb1, hb⟩
  refine ⟨?_, hb1.trans (hb.mono hb1.size)⟩
  rw [hr]; unfold pctX pctB; rw [pct_empty]; rfl

set_option maxRecDepth 100000 in
set_option maxHeartbeats 1000000 in
theorem awake_any (w : World) : Calls Try.prog 10 #[] w fun r w' => r = .returned (.bool true) ∧ Below w.heap.size w w' := by
  go_enter Try.func10, Try.ntmps10
  go_wp2_with fail
  refine (oh_new w w 2 10 (by omega) (by omega) (by omega) (by omega) (Below.refl _ _)).mono ?_
  rintro r w1 ⟨rfl, h1, _⟩
  have H1 := Lib.hid h1
  clear h1
  generalize w.heap.size = b at *
  go_wp2_with fail
  refine (oh_add w b 2 10 0 1 2 3 [] w1 0 [(0, 2)] H1.out (by omega) (by omega) (by omega) rfl rfl rfl (by decide)).mono ?_
  rintro r w2 ⟨rfl, _, hw⟩
  have H2 := Lib.hid hw
  clear hw
  go_wp2_with fail
  refine (oh_add w b 2 10 0 2 2 3 _ w2 0 [(0, 2), (0, 2)] H2.out (by omega) (by omega) (by omega) rfl rfl rfl (by decide)).mono ?_
  rintro r w3 ⟨rfl, _, hw⟩
  have H3 := Lib.hid hw
  clear hw
  go_wp2_with fail
  refine (oh_add w b 2 10 0 3 7 100 _ w3 0 [(0, 2), (0, 2), (0, 7)] H3.out (by omega) (by omega) (by omega) (by decide +kernel) rfl rfl (by decide)).mono ?_
  rintro r w4 ⟨rfl, _, hw⟩
  have H4 := Lib.hid hw
  clear hw
  go_wp2_with fail
  refine (oh_pct w b 2 10 0 3 50 _ w4 0 [2, 2, 7] 3 true H4.out (by omega) (by omega) (by omega) rfl (by decide) (by decide) (by decide +kernel) (by decide +kernel)).mono ?_
  rintro r w5 ⟨rfl, _, hw⟩
  have H5 := Lib.hid hw
  clear hw
  go_wp2_with fail
  refine (oh_pct w b 2 10 0 3 100 _ w5 0 [2, 2, 7] 127 true H5.out (by omega) (by omega) (by omega) rfl (by decide) (by decide) (by decide +kernel) (by decide +kernel)).mono ?_
  rintro r w6 ⟨rfl, _, hw⟩
  have H6 := Lib.hid hw
  clear hw
  have ix : ∀ v, (Instr.index 42 (.agg (arrU (cntL [2, 2, 7]))) (.int .i64 2)).run Try.prog v = .ok (.int .u64 2) v := index65 (Z := cntL [2, 2, 7]) (k := 2) (z := 2) (by omega) (by decide +kernel)
  have hl7 : Hid (lenS 100 = 7) := Lib.hid (by decide +kernel)
  have ht7 : Hid (topS 7 = 127) := Lib.hid (by decide +kernel)
  go_wp2_with (first
    | (go_at_call 11; refine (bin_any 100 _ (by omega) (by omega)).mono ?_; rintro r w7 ⟨rfl, rfl⟩; rw [hl7.out])
    | (go_at_call 12; refine (top_any 7 _ (by omega) (by omega)).mono ?_; rintro r w7 ⟨rfl, rfl⟩; rw [ht7.out])
    | (go_at_call 18; refine (oh_all w b 2 10 0 3 _ _ 0 [2, 2, 7] H6.out (by omega) rfl (by decide) (by decide)).mono ?_; rintro r w8 ⟨rfl, _, hw⟩; have H8 := Lib.hid hw; clear hw))
  go_ret
  exact ⟨rfl, H8.out.low⟩

/-- '==' of two arrays of 65 numbers. -/
theorem flat65 : ∀ {Z : List Int} {n : Nat}, Z.length = n → (∀ z ∈ Z, 0 ≤ z ∧ z ≤ 18446744073709551615) → Flat (List.replicate n (.int .u64)) (Z.map (Value.int .u64))
  | [], _, rfl, _ => trivial
  | z :: Z, _, rfl, h => by
    have h0 := h z (by simp)
    exact ⟨⟨z, rfl, WalkArith.wf_u64 ⟨h0.1, by omega⟩⟩, flat65 (Z := Z) rfl (fun y hy => h y (by simp [hy]))⟩
theorem same65 {Z : List Int} (h : Ok65 Z) (w : World) : (Op.equalIn 10000 42 (.agg (arrU Z)) (.agg (arrU Z))).run Try.prog w = .ok true w :=
  same_yes (P := Try.prog) (t := 42) 8 (by decide) (by kernel_rfl) (by kernel_rfl) (by kernel_rfl) (by kernel_rfl) (flat65 h.1 h.2) w
theorem zero65 (w : World) : (zeroValue 42).run Try.prog w = .ok (.agg (arrU z65)) w := by kernel_rfl
theorem z65_ok : Ok65 z65 := ⟨z65_len, fun n hn => by rw [z65_mem hn]; omega⟩

/-- Notes, all at one time. -/
def notes (zs : List Int) : List (Nat × Nat) := zs.map fun x => (0, (lenS x).toNat)
theorem notes_len (zs : List Int) : (notes zs).length = zs.length := by simp [notes]
theorem notes_snoc (zs : List Int) (i : Nat) (h : i < zs.length) (k : Nat) (hk : lenS (zs.getD i 0) = k) : notes (zs.take i) ++ [(0, k)] = notes (zs.take (i + 1)) := by
  have : zs.getD i 0 = zs[i] := by simp [h]
  rw [List.take_add_one, List.getElem?_eq_getElem h]
  simp only [notes, Option.toList_some, List.map_append, List.map_cons, List.map_nil]
  rw [← this, hk]
  rfl
/-- The bins of times. -/
def binsOf (zs : List Int) : List Nat := zs.map fun x => (lenS x).toNat
theorem binsOf_len (zs : List Int) : (binsOf zs).length = zs.length := by simp [binsOf]
theorem told_notes (zs : List Int) : told 0 2 (notes zs) = binsOf zs := by
  induction zs with
  | nil => rfl
  | cons z zs ih =>
    have : notes (z :: zs) = [(0, (lenS z).toNat)] ++ notes zs := rfl
    rw [this, told_append, ih]; rfl
theorem binsOf_lt {zs : List Int} (h : ∀ z ∈ zs, 0 ≤ z ∧ z ≤ 18446744073709551615) : ∀ k ∈ binsOf zs, k < 65 := by
  intro k hk
  simp only [binsOf, List.mem_map] at hk
  obtain ⟨z, hz, rfl⟩ := hk
  have := h z hz
  have := lenS_bd this.1 this.2
  omega
set_option maxHeartbeats 400000 in
theorem noted_any (w0 w : World) (a : Option Addr) (len cap : Nat) (zs : List Int) (h : Row .u64 w0 a len zs) (hzl : zs.length = len) (hl : Below w0.heap.size w0 w) :
    Calls Try.prog 14 #[.slice a len cap] w fun r w' => ∃ b, r = .returned (.pointer (some ⟨b, 0, none⟩)) ∧ OwH w0 w' b 2 10 0 (notes (zs.take 100)) := by
  have hm := h.2.1
  unfold maxLen at hm
  have HH := Lib.hid h
  have HZL := Lib.hid hzl
  clear h hzl
  go_enter Try.func14, Try.ntmps14
  go_wp2_with fail
  refine (oh_new w0 w 2 10 (by omega) (by omega) (by omega) (by omega) hl).mono ?_
  clear hl
  rintro r w1 ⟨rfl, h1, _⟩
  have H1 := Lib.hid h1
  clear h1
  generalize w.heap.size = b at *
  go_wp2
  go_loopg [4] len (fun k v4 wr => ∃ i : Nat, i + k = len ∧ i ≤ 100 ∧ v4 = .int .i64 i ∧ OwH w0 wr b 2 10 0 (notes (zs.take i)))
  case atStart => exact ⟨0, by omega, by omega, rfl, H1.out⟩
  case round =>
    obtain ⟨i, hi, hi1, rfl, ho⟩ := hrel
    have HO := Lib.hid ho
    clear ho
    by_cases hlt : i < len ∧ i < 100
    · obtain ⟨hlt, hlt1⟩ := hlt
      have hlt' : (i : Int) < len := by omega
      have hlt1' : (i : Int) < 100 := by omega
      obtain ⟨hz, _, hc0, hwf⟩ := HH.out.later HO.out.low
      obtain ⟨blk, off, rfl, hc⟩ : ∃ b off, a = some ⟨b, off, none⟩ ∧ ∀ j, j < zs.length → wr.cell? ⟨b, off + j, none⟩ = some (.int .u64 (zs.getD j 0)) := by
        rcases hc0 with h | h
        · omega
        · exact h
      clear hc0
      have hcell := hc i (by omega)
      have hn := wf_u64 (wf_getD hwf (j := i) (by omega))
      obtain ⟨k, hk⟩ : ∃ k : Nat, lenS (zs.getD i 0) = k := ⟨(lenS (zs.getD i 0)).toNat, by have := lenS_bd hn.1 hn.2; omega⟩
      have hsn := Lib.hid (notes_snoc zs i (by omega) k hk)
      generalize zs.getD i 0 = z at *
      have HK := Lib.hid hk
      clear hc hwf hz hk
      go_wp2_with fail
      refine (oh_add w0 b 2 10 0 5 k z _ wr 0 (notes (zs.take (i + 1))) HO.out (by omega) hn.1 hn.2 HK.out (by simp) hsn.out (by rw [notes_len, List.length_take]; omega)).mono ?_
      rintro r w2 ⟨rfl, _, ho⟩
      have HO2 := Lib.hid ho
      clear ho hcell
      go_wp2
      go_roundg (len - (i + 1))
      case measure => omega
      case rel => exact ⟨i + 1, by omega, by omega, by simp, HO2.out⟩
    · have e : zs.take i = zs.take 100 := by
        have := HZL.out
        by_cases h1 : i < 100
        · rw [List.take_of_length_le (by omega), List.take_of_length_le (by omega)]
        · rw [show i = 100 by omega]
      have HE := Lib.hid e
      clear e
      by_cases h1 : i < len
      · have h1' : (i : Int) < len := by omega
        have h2' : ¬ (i : Int) < 100 := by omega
        clear hlt
        go_wp2
        go_ret
        exact ⟨b, rfl, by rw [← HE.out]; exact HO.out⟩
      · have h1' : ¬ (i : Int) < len := by omega
        clear hlt
        go_wp2
        go_ret
        exact ⟨b, rfl, by rw [← HE.out]; exact HO.out⟩
end Go.Proofs.Ytpheifdneafkhaa
