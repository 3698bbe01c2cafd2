/- Contract of package hist's All. -/
import Derived.Test.YtpheifdneafkhaaHisDo
namespace Go.Proofs.Ytpheifdneafkhaa
set_option linter.unusedVariables false
open Go.ChangeShapes Go.WideShapes Go.ChangeAt Go.RowKit

/-- What All tells. -/
def allL (F : Cnt) (t B : Nat) : List Int := (List.range 65).map fun k => satS (tot F t k B)
theorem allL_len (F : Cnt) (t B : Nat) : (allL F t B).length = 65 := by simp [allL]
theorem allL_at (F : Cnt) (t B : Nat) {k : Nat} (h : k < 65) : (allL F t B)[k]? = some (satS (tot F t k B)) := by simp [allL, h]
theorem allL_none (t B : Nat) : allL (fun _ _ => 0) t B = z65 := by
  apply List.ext_getElem?
  intro i
  by_cases hi : i < 65
  · rw [allL_at _ _ _ hi, z65_at hi, sat_none]
  · rw [List.getElem?_eq_none (by rw [allL_len]; omega), List.getElem?_eq_none (by rw [z65_len]; omega)]

/-- What a row of cells holds behind j buckets (and the bins below k one more). -/
def UpdH (Z T : List Int) (j k : Nat) : Prop := T.length = 65 ∧ ∀ i, i < 65 → T[i]? = some (satS (sumN (fun q => Z.getD (65 * q + i) 0) (if i < k then j + 1 else j)))
theorem UpdH.step {Z T : List Int} {j k : Nat} (h : UpdH Z T j k) (hk : k < 65) (hz : ∀ q, 0 ≤ Z.getD q 0) {x : Int} (hx : x = addS (satS (sumN (fun q => Z.getD (65 * q + k) 0) j)) (Z.getD (65 * j + k) 0)) : UpdH Z (T.set k x) j (k + 1) := by
  refine ⟨by simp [h.1], fun i hi => ?_⟩
  by_cases he : i = k
  · subst he
    rw [List.getElem?_set_self (by rw [h.1]; exact hi), if_pos (by omega), hx, addS_satS (sumN_nonneg fun _ _ => hz _) (hz _)]
    rfl
  · rw [List.getElem?_set_ne (by omega), h.2 i hi]
    by_cases hik : i < k
    · rw [if_pos hik, if_pos (by omega)]
    · rw [if_neg hik, if_neg (by omega)]
theorem UpdH.next {Z T : List Int} {j : Nat} (h : UpdH Z T j 65) : UpdH Z T (j + 1) 0 := by
  refine ⟨h.1, fun i hi => ?_⟩
  rw [h.2 i hi, if_pos hi, if_neg (by omega)]
theorem UpdH.start (Z : List Int) : UpdH Z z65 0 0 := ⟨z65_len, fun i hi => by rw [z65_at hi, if_neg (by omega)]; rfl⟩

theorem und58 : Try.prog.underlying 58 = some (.array 8 42) := by kernel_rfl
theorem size58 {Z : List Int} (h : Z.length = 520) : (Try.prog.info? 58).map (·.size) = some Z.length := by rw [h]; kernel_rfl
theorem index65 {Z : List Int} {k : Nat} {z : Int} (hk : k < 65) (hz : Z[k]? = some z) (w : World) : (Instr.index 42 (.agg (arrU Z)) (.int .i64 k)).run Try.prog w = .ok (.int .u64 z) w :=
  run_index_arr w 42 22 65 Z .i64 k z und65 (by kernel_rfl) (by kernel_rfl) hk hz
theorem index58 (Z : List Int) {j : Nat} (hj : j < 8) (w : World) : (Instr.index 58 (.agg (arrU Z)) (.int .i64 j)).run Try.prog w = .ok (.agg (arrU ((Z.drop (j * 65)).take 65))) w :=
  run_index_arrs w 58 42 8 65 Z .i64 j und58 (by kernel_rfl) (by kernel_rfl) hj
theorem row_at (Z : List Int) (hl : Z.length = 520) {j k : Nat} (hj : j < 8) (hk : k < 65) : ((Z.drop (j * 65)).take 65)[k]? = some (Z.getD (65 * j + k) 0) := by
  rw [List.getElem?_take_of_lt hk, List.getElem?_drop, List.getD_eq_getElem?_getD, Nat.mul_comm j 65, List.getElem?_eq_getElem (by omega)]
  rfl
theorem row_len (Z : List Int) (hl : Z.length = 520) {j : Nat} (hj : j < 8) : ((Z.drop (j * 65)).take 65).length = 65 := by simp [hl]; omega

theorem Frm.newH {F : Nat → Prop} {a w : World} (h : Frm F a w) {g : Nat} (hg : a.heap.size ≤ g) (o : Nat) (u : Value) : Frm F a (w.setCell ⟨g, o, none⟩ u) :=
  ⟨h.os, h.tape, h.output, by rw [heap_set_size]; exact h.size, fun j hj hn => by rw [heap_set_other (show j ≠ g by omega)]; exact h.block j hj hn⟩
/-- A store into a block that is new since a. -/
theorem Frm.then_new {F : Nat → Prop} {a w w' : World} (h : Frm F a w) {g : Nat} (hg : a.heap.size ≤ g) (hf : Frm (· = g) w w') : Frm F a w' := h.trans hf (fun j hj e => by subst e; omega)

set_option maxRecDepth 100000 in
set_option maxHeartbeats 400000 in
theorem hall_nil (now : Int) (w : World) : Calls Try.prog 18 #[.pointer none, .int .u64 now] w fun r w' => r = .returned (.agg (arrU z65)) ∧ Below w.heap.size w w' := by
  obtain ⟨g, hG⟩ : ∃ g, w.heap.size = g := ⟨_, rfl⟩
  go_enter Try.func18, Try.ntmps18
  go_wp2_with (first
    | (refine wpList_store_arr rfl 42 (.tmp 4) (.tmp 12) rfl g z65 z65 rfl rfl K2 rfl (size65 z65_len) ?_; rintro w3 K3 F3 _)
    | (refine wpList_load_arr rfl 42 (.tmp 5) rfl (g + 1) rfl z65 K1 65 22 und65 (size65 z65_len) ?_)
    | (refine wpList_alloc_arr rfl 42 rfl (g + 1) S1 z65 (alloc65 _) ?_; rintro w2 K1 B2 _; have K2 := kb_below K0 (B2.mono (by omega)))
    | (refine wpList_alloc_arr rfl 42 rfl g hG z65 (alloc65 _) ?_; rintro w1 K0 B1 S1))
  have hlv := run_load_arr (P := Try.prog) w3 42 g 65 22 z65 K3 und65 (size65 z65_len)
  refine bodyPost_ret (v := .agg (arrU z65)) (results_cell Try.results18 rfl hlv) rfl ⟨rfl, ?_⟩
  subst hG
  have h2 := B1.trans (B2.mono (by omega))
  exact h2.trans (F3.below h2.size (fun j hj e => by omega))

set_option maxRecDepth 100000 in
set_option maxHeartbeats 2000000 in
theorem hall_his (b B W t now : Nat) (F : Cnt) (w : World) (h : His w b B W t F) (hn : now ≤ 18446744073709551615) :
    Calls Try.prog 18 #[.pointer (some ⟨b, 0, none⟩), .int .u64 now] w fun r w' => r = .returned (.agg (arrU (allL F (max (now / W) t) B))) ∧ Frm (· = b) w w' ∧ His w' b B W (max (now / W) t) F := by
  obtain ⟨g, hG⟩ : ∃ g, w.heap.size = g := ⟨_, rfl⟩
  have hbg : b < g := by rw [← hG]; exact h.lt
  obtain ⟨t', ht'⟩ : ∃ t', max (now / W) t = t' := ⟨_, rfl⟩
  have hr := fun w2 h2 => reach_his b B W t now F w2 h2 hn
  rw [ht'] at hr ⊢
  have HR := Lib.hid hr
  have HH := Lib.hid h
  clear ht' h hr
  go_enter Try.func18, Try.ntmps18
  go_wp2_with (first
    | (refine wpList_alloc_arr rfl 42 rfl (g + 1) S1 z65 (alloc65 _) ?_; rintro w2 K1 B2 S2; have K2 := kb_below K0 (B2.mono (by omega)))
    | (refine wpList_alloc_arr rfl 42 rfl g hG z65 (alloc65 _) ?_; rintro w1 K0 B1 S1))
  have hb12 : Below w.heap.size w w2 := by rw [hG]; exact B1.trans (B2.mono (by omega))
  refine (HR.out w2 (HH.out.below hb12)).mono ?_
  rintro r w3 ⟨rfl, hf, hw⟩
  have f2 : Frm (· = b) w w3 := (Frm.of_below (F := (· = b)) hb12).trans hf (fun _ _ h => h)
  have g0 : w3.heap[g]? = some (aobj 42 z65) := by rw [hf.block g (by omega) (by omega)]; exact K2
  have g1 : w3.heap[g + 1]? = some (aobj 42 z65) := by rw [hf.block (g + 1) (by omega) (by omega)]; exact K1
  clear K0 K1 K2 B1 B2 S1 S2 hb12 hf HH HR
  obtain ⟨Z, hb, hl⟩ := hw.blk
  have hlen := hl.len
  have hld : w3.rangeAt b 3 (Z.map (Value.int .u64)) := fun j v hv => by
      simp only [List.getElem?_map, Option.map_eq_some_iff] at hv
      obtain ⟨z, hz, rfl⟩ := hv
      exact oobj_cell hb hz
  have hix := fun (j : Nat) (hj : j < 8) => index58 Z hj
  have hzz : ∀ q, 0 ≤ Z.getD q 0 ∧ Z.getD q 0 ≤ 18446744073709551615 := hl.cell hw.B1 hw.B8
  have HG := Lib.hid hG
  have HZ := Lib.hid hzz
  have HLD := Lib.hid hld
  have HLEN := Lib.hid hlen
  have HIX := Lib.hid hix
  have HF := Lib.hid f2
  have HW := Lib.hid hw
  have HL := Lib.hid hl
  have K0 := Lib.hid g0
  have K1 := Lib.hid g1
  clear hw hb hl hlen hix hzz f2 g0 g1 hld hG
  go_wp2_with (refine wpList_load_arrAt rfl 58 (.tmp 18) rfl b 3 rfl Z HLD.out 8 42 und58 (size58 HLEN.out) ?_)
  go_loopg [20] 8 (fun k v20 wr => ∃ (j : Nat) (T : List Int), j + k = 8 ∧ v20 = .int .i64 j ∧ wr.heap[g + 1]? = some (aobj 42 T) ∧ UpdH Z T j 0 ∧ wr.heap[g]? = some (aobj 42 z65) ∧ His wr b B W t' F ∧ Frm (· = b) w wr)
  case atStart => exact ⟨0, z65, rfl, rfl, K1.out, UpdH.start Z, K0.out, HW.out, HF.out⟩
  case round =>
    obtain ⟨j, T, hj, rfl, k1, hu, k0, hw, hf⟩ := hrel
    have HJ := Lib.hid hj
    have HU := Lib.hid hu
    have K1' := Lib.hid k1
    have K0' := Lib.hid k0
    have HW' := Lib.hid hw
    have HF' := Lib.hid hf
    by_cases hlt : j < 8
    · have hlt' : (j : Int) < 8 := by omega
      have hix := HIX.out j hlt
      have hrl := row_len Z HLEN.out hlt
      have hra := fun (k : Nat) (hk : k < 65) => row_at Z HLEN.out hlt hk
      generalize (Z.drop (j * 65)).take 65 = R at hix hrl hra
      have HRL := Lib.hid hrl
      have HRA := Lib.hid hra
      obtain ⟨q, hq⟩ : ∃ q, wr.heap.size = q := ⟨_, rfl⟩
      have hgq : g + 1 < q := by rw [← hq]; exact heap_lt k1
      have HQ := Lib.hid hq
      clear hj hu k1 k0 hw hf hrl hra hq
      go_wp2_with (first
        | (refine wpList_load_arr rfl 42 (.tmp 7) rfl q rfl R K4 65 22 und65 (size65 HRL.out) ?_)
        | (refine wpList_store_arr rfl 42 (.tmp 7) (.tmp 22) rfl q z65 R rfl rfl K3 (by rw [z65_len, HRL.out]) (size65 HRL.out) ?_; rintro wi K4 F4 S4)
        | (refine wpList_alloc_arr rfl 42 rfl q HQ.out z65 (alloc65 _) ?_; rintro wh K3 B3 S3))
      have hbi : Below q wr wi := B3.trans (F4.below (by omega) (fun j hj e => by omega))
      rw [← HQ.out] at hbi
      have I1 := Lib.hid (kb_below K1'.out hbi)
      have I0 := Lib.hid (kb_below K0'.out hbi)
      have IW := Lib.hid (HW'.out.below hbi)
      have IF := Lib.hid (HF'.out.then_below hbi)
      clear hbi K3 K4 B3 F4 S3 S4 hix
      go_loopg [24] 65 (fun kk v24 wr => ∃ (k : Nat) (T' : List Int), k + kk = 65 ∧ v24 = .int .i64 k ∧ wr.heap[g + 1]? = some (aobj 42 T') ∧ UpdH Z T' j k ∧ wr.heap[g]? = some (aobj 42 z65) ∧ His wr b B W t' F ∧ Frm (· = b) w wr)
      case atStart => exact ⟨0, T, rfl, rfl, I1.out, HU.out, I0.out, IW.out, IF.out⟩
      case round =>
        obtain ⟨k, T', hk, rfl, k1, hu, k0, hw, hf⟩ := hrel
        have HK := Lib.hid hk
        have HU' := Lib.hid hu
        have R1 := Lib.hid k1
        have R0 := Lib.hid k0
        have RW := Lib.hid hw
        have RF := Lib.hid hf
        by_cases hkl : k < 65
        · have hkl' : (k : Int) < 65 := by omega
          obtain ⟨x, hx⟩ : ∃ x, satS (sumN (fun q => Z.getD (65 * q + k) 0) j) = x := ⟨_, rfl⟩
          have hxb : 0 ≤ x ∧ x ≤ 18446744073709551615 := by rw [← hx]; exact satS_bd (sumN_nonneg fun _ _ => (HZ.out _).1)
          have hTx : T'[k]? = some x := by rw [hu.2 k hkl, if_neg (by omega), hx]
          have q0 := aobj_cell k1 hTx
          have f0 := aobj_frozen k1 k
          obtain ⟨z, hz⟩ : ∃ z, Z.getD (65 * j + k) 0 = z := ⟨_, rfl⟩
          have hzb := HZ.out (65 * j + k)
          have hik := index65 hkl (HRA.out k hkl)
          rw [hz] at hik hzb
          have hst := hu.step (x := addS x z) hkl (fun q => (HZ.out q).1) (by rw [hx, hz])
          have ha := add_any x z wr hxb.1 hzb.1 hxb.2 hzb.2
          have HST := Lib.hid hst
          have S1 := Lib.hid (aobj_set k1 k (addS x z))
          have S0 := Lib.hid ((heap_set_other (p := ⟨g + 1, k, none⟩) (k := g) (by simp) (.int .u64 (addS x z))).trans k0)
          have SW := Lib.hid (hw.keep (heap_set_other (p := ⟨g + 1, k, none⟩) (k := b) (by simp; omega) (.int .u64 (addS x z))))
          have SF := Lib.hid (hf.newH (g := g + 1) (by rw [HG.out]; omega) k (.int .u64 (addS x z)))
          generalize addS x z = y at *
          clear hk hu k1 k0 hw hf hx hTx hz hst
          go_wp2_with (go_at_call 25; refine ha.mono ?_; rintro e w5 ⟨rfl, rfl⟩)
          go_roundg (65 - (k + 1))
          case measure => have := HK.out; omega
          case rel => exact ⟨k + 1, T'.set k y, by omega, by simp, S1.out, HST.out, S0.out, SW.out, SF.out⟩
        · have hkl' : ¬ (k : Int) < 65 := by omega
          clear hk hu k1 k0 hw hf
          go_wp2
          obtain rfl : k = 65 := by have := HK.out; omega
          go_roundg (8 - (j + 1))
          case measure => have := HJ.out; omega
          case rel => exact ⟨j + 1, T', by omega, by simp, R1.out, HU'.out.next, R0.out, RW.out, RF.out⟩
    · have hlt' : ¬ (j : Int) < 8 := by omega
      obtain rfl : j = 8 := by omega
      have hT : T = allL F t' B := by
        have hw := HW'.out
        have hl := HL.out
        apply List.ext_getElem?
        intro i
        by_cases hi : i < 65
        · rw [hu.2 i hi, if_neg (by omega), hl.tot hw.B1 hw.B8 hi, allL_at _ _ _ hi]
        · rw [List.getElem?_eq_none (by rw [hu.1]; omega), List.getElem?_eq_none (by rw [allL_len]; omega)]
      rw [hT] at k1
      have hal := allL_len F t' B
      generalize hAA : allL F t' B = A at *
      have HAA := Lib.hid hAA
      have HA := Lib.hid hal
      have K1A := Lib.hid k1
      clear hj hu k1 k0 hw hf hT hal hAA
      go_wp2_with (first
        | (refine wpList_store_arr rfl 42 (.tmp 4) (.tmp 37) rfl g z65 A rfl rfl K0'.out (by rw [z65_len, HA.out]) (size65 HA.out) ?_; rintro we KE FE SE)
        | (refine wpList_load_arr rfl 42 (.tmp 5) rfl (g + 1) rfl A K1A.out 65 22 und65 (size65 HA.out) ?_))
      have hlv := run_load_arr (P := Try.prog) we 42 g 65 22 A KE und65 (size65 HA.out)
      refine bodyPost_ret (v := .agg (arrU A)) (results_cell Try.results18 rfl hlv) rfl ⟨by rw [HAA.out], ?_, ?_⟩
      · exact HF'.out.then_new (by rw [HG.out]; omega) FE
      · exact HW'.out.frm FE (by omega)
end Go.Proofs.Ytpheifdneafkhaa
