/- Layer 16's examples' check; events, as the program has them. -/
import Derived.Test.YtfncipoiblieeaaHeaOf
namespace Go.Proofs.Ytfncipoiblieeaa
set_option linter.unusedVariables false
open Go.ChangeShapes Go.WideShapes Go.ChangeAt Go.RowKit Go.Deep

def kAwake : K5 := ⟨2, 1, 1, 0, 9⟩
def cAwake (v p : Int) : Cnf := { Cnf.zero with volume := v, percent := p }
theorem kAwake_fits : kAwake.Fits := ⟨by decide, by decide, by decide, by decide, by decide⟩
theorem zero_fitsC : Cnf.zero.Fits := ⟨by decide, by decide, by decide, by decide, by decide, by decide, by decide, by decide, by decide, by decide, by decide, by decide, by decide, by decide, by decide, by decide⟩
theorem cAwake_fits {v p : Int} (hv : -9223372036854775808 ≤ v ∧ v ≤ 9223372036854775807) (hp : -9223372036854775808 ≤ p ∧ p ≤ 9223372036854775807) : (cAwake v p).Fits :=
  have z := zero_fitsC
  ⟨z.mode, z.pool, z.queue, z.sem, z.fbMax, z.chain, z.timeout, z.fbTimeout, hv, hp, z.sleep, z.buckets, z.width, z.window, z.batch, z.force⟩
theorem opens_is (k : K5) (f : Cnf) (w : World) (ans : Bool) (hk : k.Fits) (hf : f.Fits) (ha : k.opens f.volume f.percent = ans) : Calls Try.prog 16 #[.agg (aggV k.vals), .agg (aggV f.vals)] w fun r w' => r = .returned (.bool ans) ∧ Below w.heap.size w w' := by
  rw [← ha]; exact opens_any k f w hk hf

set_option maxHeartbeats 2000000 in
theorem awake16_any (w : World) : Calls Try.prog 9 #[] w fun r w' => r = .returned (.bool true) ∧ Below w.heap.size w w' := by
  obtain ⟨g, hg⟩ : ∃ g, w.heap.size = g := ⟨_, rfl⟩
  have HG := Lib.hid hg
  have HO1 := Lib.hid (fun v => opens_is kAwake (cAwake 4 50) v true kAwake_fits (cAwake_fits (by decide) (by decide)) (by decide))
  have HO2 := Lib.hid (fun v => opens_is kAwake (cAwake 4 51) v false kAwake_fits (cAwake_fits (by decide) (by decide)) (by decide))
  have HO3 := Lib.hid (fun v => opens_is kAwake (cAwake 5 0) v false kAwake_fits (cAwake_fits (by decide) (by decide)) (by decide))
  have HE : Hid (∀ v, Calls Try.prog 12 #[.agg (aggV kAwake.vals)] v fun r w' => r = .returned (.int .u64 2) ∧ Below v.heap.size v w') := Lib.hid (fun v => errors_any kAwake v kAwake_fits)
  have HV : Hid (∀ v, Calls Try.prog 14 #[.agg (aggV kAwake.vals)] v fun r w' => r = .returned (.int .u64 4) ∧ Below v.heap.size v w') := Lib.hid (fun v => volume_any kAwake v kAwake_fits)
  have HKV : Hid (K5.zero.vals.length = kAwake.vals.length) := Lib.hid rfl
  have HKO := Lib.hid kAwake.ones
  have HSK := Lib.hid (sizeK5 kAwake)
  go_enter Try.func9, Try.ntmps9
  go_wp2_with (first
    | (refine wpList_alloc_agg rfl 23 rfl g hg K5.zero.vals (allocK _) ?_; intro w1 h1 b1 s1)
    | (refine wpList_store_agg rfl 23 _ _ rfl g K5.zero.vals kAwake.vals rfl rfl h1 HKV.out HSK.out HKO.out ?_; intro w2 h2 f2 s2; have B2 := Lib.hid (b1.trans (f2.below (by omega : g ≤ w1.heap.size) (fun j hj e => by omega))); clear h1 b1 s1 f2 s2))
  refine (kind_any 2 _).mono ?_
  rintro r w3 ⟨rfl, hw⟩
  rw [hw]
  clear hw w3
  rw [if_pos (show (1 : Int) ≤ 2 ∧ (2 : Int) ≤ 4 by omega), decide_eq_true (show (1 : Int) ≤ 2 ∧ (2 : Int) ≤ 4 by omega)]
  go_wp2_with (refine wpList_load_agg rfl 23 _ rfl g rfl kAwake.vals h2 _ undK rfl HSK.out ?_)
  refine (HE.out _).mono ?_
  rintro r w3 ⟨rfl, b3⟩
  have h3 := kb_below h2 b3
  have B3 := Lib.hid (B2.out.trans (b3.mono (by have := B2.out.size; omega : g ≤ w2.heap.size)))
  clear h2 b3 B2
  go_wp2_with (refine wpList_load_aggG rfl 23 _ rfl g rfl kAwake.vals h3 _ undK rfl HSK.out ?_)
  refine (HV.out _).mono ?_
  rintro r w4 ⟨rfl, b4⟩
  have h4 := kb_below h3 b4
  have B4 := Lib.hid (B3.out.trans (b4.mono (by have := B3.out.size; omega : g ≤ w3.heap.size)))
  clear h3 b4 B3
  go_wp2_with (refine wpList_load_aggG rfl 23 _ rfl g rfl kAwake.vals h4 _ undK rfl HSK.out ?_)
  refine (HO1.out _).mono ?_
  rintro r w5 ⟨rfl, b5⟩
  have h5 := kb_below h4 b5
  have B5 := Lib.hid (B4.out.trans (b5.mono (by have := B4.out.size; omega : g ≤ w4.heap.size)))
  clear h4 b5 B4
  go_wp2_with (refine wpList_load_aggG rfl 23 _ rfl g rfl kAwake.vals h5 _ undK rfl HSK.out ?_)
  refine (HO2.out _).mono ?_
  rintro r w6 ⟨rfl, b6⟩
  have h6 := kb_below h5 b6
  have B6 := Lib.hid (B5.out.trans (b6.mono (by have := B5.out.size; omega : g ≤ w5.heap.size)))
  clear h5 b6 B5
  go_wp2_with (refine wpList_load_aggG rfl 23 _ rfl g rfl kAwake.vals h6 _ undK rfl HSK.out ?_)
  refine (HO3.out _).mono ?_
  rintro r w7 ⟨rfl, b7⟩
  have B7 := Lib.hid (B6.out.trans (b7.mono (by have := B6.out.size; omega : g ≤ w6.heap.size)))
  clear h6 b7 B6
  go_wp2
  go_ret
  refine ⟨rfl, ?_⟩
  try rw [HG.out]
  exact B7.out

theorem tEv : SlT Try.prog erec 36 60 := slT_of (z := .agg #[.int .u64 0, .int .i64 0]) (n := 2) (by_ := 16) Try.underlying36 (by kernel_rfl) rfl (by decide) rfl
theorem take_snoc {α : Type} {l : List α} {i : Nat} {e : α} (h : l[i]? = some e) : l.take (i + 1) = l.take i ++ [e] := by rw [List.take_add_one, h]; rfl

set_option maxHeartbeats 2000000 in
theorem made16_any (A : Option Addr) (n c : Nat) (V : List Ev) (w : World) (hr : RowR erec w A n V) (hn : n ≤ 1000) :
    Calls Try.prog 19 #[.slice A n c] w fun r w' => ∃ A' c', r = .returned (.slice A' n c') ∧ RowR erec w' A' n V ∧ Below w.heap.size w w' := by
  have HR := Lib.hid hr
  have HV := Lib.hid hr.1
  clear hr
  go_enter Try.func19, Try.ntmps19
  go_wp2
  go_loopg [3, 4] n (fun k v3 v4 wr => ∃ j : Nat, j + k = n ∧ v4 = .int .i64 j ∧ OwnR erec wr w.heap.size 60 v3 (V.take j) ∧ Below w.heap.size w wr)
  case atStart => exact ⟨0, by omega, rfl, OwnR.nil _ _ _, Below.refl _ _⟩
  case round =>
    obtain ⟨j, hj, rfl, hi, hbl⟩ := hrel
    have HJ := Lib.hid hj
    have HI := Lib.hid hi
    have HBL := Lib.hid hbl
    clear hj
    by_cases hlt : j < n
    · have hlt' : (j : Int) < n := by omega
      obtain ⟨b, off, e, rfl, hz, hbw, q0, q1⟩ := HR.out.ev_at hlt
      have p0 := cell_later hbl q0
      have p1 := cell_later hbl q1
      have HZ := Lib.hid hz
      clear hz hi hbl q0 q1
      have OWN1 := Lib.hid ((HI.out.alloc (.cells #[.int .u64 e.tm, .int .i64 e.kind] 60)).ali (drew_ali _))
      have SRC1 := Lib.hid ((RowR.one (R := erec) wr e 60 (cs := #[.int .u64 e.tm, .int .i64 e.kind]) rfl).ali (drew_ali _))
      have HB1 := Lib.hid (HBL.out.alloc HBL.out.size (.cells #[.int .u64 e.tm, .int .i64 e.kind] 60)).drew
      have LT : Hid ((V.take j).length + 1 ≤ 1048576) := Lib.hid (by rw [List.length_take]; omega)
      go_wp2
      go_region_law (first
        | (refine appS_step tEv rfl (.tmp 11) (.tmp 23) rfl (base := w.heap.size) rfl rfl OWN1.out SRC1.out LT.out HB1.out.size ?_
           intro v' w' own' gr' _
           have OWN := Lib.hid own'
           have GR := Lib.hid gr'
           clear own' gr'))
      all_goals (
        go_wp2
        go_roundg (n - (j + 1))
        (case measure => have := HJ.out; omega)
        (case rel =>
          refine ⟨j + 1, by omega, by simp, ?_, ?_⟩
          · rw [take_snoc HZ.out]
            exact OWN.out
          · exact HB1.out.trans (grown_low GR.out HB1.out.size OWN1.out.low)))
    · have hlt' : ¬ (j : Int) < n := by omega
      obtain rfl : j = n := by have := HJ.out; omega
      have hV0 : V.take j = V := List.take_of_length_le (by rw [HV.out]; omega)
      rw [hV0] at hi
      obtain ⟨A', n', c', hv, hrow, hlen, _, _⟩ := hi.row'
      have hn' : n' = j := by rw [← hlen.out, HV.out]
      subst hn'
      subst hv
      have HROW := Lib.hid hrow
      clear hV0 hi hbl hrow HI
      go_wp2
      go_ret
      exact ⟨A', ⟨c', rfl⟩, HROW.out, HBL.out⟩
end Go.Proofs.Ytfncipoiblieeaa
