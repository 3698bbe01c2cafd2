/- What is proved: LatchStays of porpoiselaw11 answers true for every input, and leaves its arguments as they were; conditions: those of the given row alone. -/
import Derived.Test.YtgbhkfefdeahdaaKit
import Derived.Test.YtgbhkfefdeahdaaLaw11
import Derived.Test.YtgbhkfefdeahdaaRef11b
import Derived.Deep.RegionHeld3
namespace Go.Proofs.Ytgbhkfefdeahdaa.latchStays
open Go.ChangeShapes Go.WideShapes Go.ChangeAt Go.RowKit Go.Deep
open Go.ChangeMaps (open_string shut_string)
set_option linter.unusedVariables false

theorem own : ownKnob Try.prog.godebug = none := by kernel_rfl
theorem laidOut : laidOutB Try.prog = true := by kernel_rfl

theorem latF_step {b m n j : Nat} {v v' : Value} (h : v'.ownBlock = v.ownBlock ∨ ∃ j, v'.ownBlock = some j ∧ n ≤ j) (hj : LatF b m v' j) : LatF b m v j ∨ n ≤ j := by
  rcases hj with e | e | e
  · exact .inl (.inl e)
  · exact .inl (.inr (.inl e))
  · rcases h with h | ⟨k, h, hk⟩
    · exact .inl (.inr (.inr (by rw [← h]; exact e)))
    · rw [h] at e
      injection e with e
      exact .inr (by omega)
theorem emits_begin : ∀ (V L : List Ot), ∃ T, emits L V = L ++ T
  | [], L => ⟨[], by simp [emits]⟩
  | x :: V, L => by
    obtain ⟨T, h⟩ := emits_begin V (emit L x)
    rw [show emits L (x :: V) = emits (emit L x) V from rfl, h]
    unfold emit
    split
    · exact ⟨x :: T, by simp⟩
    · exact ⟨T, rfl⟩
theorem emits_more_len (L V : List Ot) (i : Nat) (h : L.length ≤ 100) : (emits L (V.take i)).length ≤ 100 + i := by
  have := emits_len (V.take i) L
  rw [List.length_take] at this
  omega

set_option maxRecDepth 100000 in
set_option maxHeartbeats 4000000 in
theorem walk (w : World) (a0 : Option Addr) (l0 k0 : Nat) (L0 : List (List Value)) (w0 : SliceIn w [.int .i64, .int .i64, .int .i64, .int .i64, .int .u64] 40 a0 l0 k0 L0) (a1 : Option Addr) (l1 k1 : Nat) (L1 : List (List Value)) (w1 : SliceIn w [.int .i64, .int .i64, .int .i64, .int .i64, .int .u64] 40 a1 l1 k1 L1) :
    Calls Try.prog 5 #[.slice a0 l0 k0, .slice a1 l1 k1] w fun e w' => e = .returned (.bool true) ∧ Below w.heap.size w w' := by
  obtain ⟨V, hrow, hfit, _, _⟩ := outs_in w0
  obtain ⟨U, hrow', hfit', _, _⟩ := outs_in w1
  obtain ⟨n, hn1, hn2, hn3, HA⟩ := cap_at l1 U hrow'.1
  have hml := hrow'.2.1
  unfold maxLen at hml
  have HR := Lib.hid hrow
  have HF := Lib.hid hfit
  have HR' := Lib.hid hrow'
  have HF' := Lib.hid hfit'
  clear w0 w1 hrow hfit hrow' hfit'
  obtain ⟨L, hL⟩ : ∃ L, emits [] (V.take 100) = L := ⟨_, rfl⟩
  have LL : Hid (L.length ≤ 100) := Lib.hid (by rw [← hL]; exact emits_take_len V 100)
  have HLL := Lib.hid hL
  clear hL
  go_enter Try.func5, Try.ntmps5
  go_wp2_with (first
    | (go_at_call 9; refine (awake_any w).mono ?_; rintro r wa ⟨rfl, ba⟩; have LA := Lib.hid ba; clear ba)
    | (go_at_call 20; refine (ran_any a0 l0 k0 V wa (HR.out.later LA.out) HF.out).mono ?_; rw [HLL.out]; rintro r w1 ⟨b, rfl, m, v, h1⟩; have H1 := Lib.hid h1; clear h1)
    | (go_at_call 18; refine (all_lat wa.heap.size b m v L w1 H1.out.lat (by have := LL.out; omega)).mono ?_; rintro r w2 ⟨v7, rfl, o7, b7⟩; have H2 := Lib.hid (H1.out.below b7); have O7 := Lib.hid o7; clear o7 b7))
  have N7 : Hid (∀ j, v7.ownBlock = some j → ¬ LatF b m v j) := Lib.hid (fun j hj hc => by have h1 := O7.out.low j hj; have h2 := (H1.out.lat.low j hc).2; omega)
  go_loopg [8] n (fun q v8 wr => ∃ (i : Nat) (v' : Value), i + q = n ∧ v8 = .int .i64 i ∧ OwL wa wr b m v' (emits L (U.take i)) ∧ OutR wr w1.heap.size v7 L ∧ ∀ j, v7.ownBlock = some j → ¬ LatF b m v' j)
  case atStart => exact ⟨0, v, by omega, rfl, H2.out, O7.out, N7.out⟩
  case round =>
    obtain ⟨i, v', hq, rfl, hol, ho, hnl⟩ := hrel
    have G := Lib.hid hq
    have OL := Lib.hid hol
    have O8 := Lib.hid ho
    have N8 := Lib.hid hnl
    clear hq hol ho hnl
    by_cases hin : i < n
    · have hi1 : (i : Int) < l1 := by omega
      have hi2 : (i : Int) < 100 := by omega
      obtain ⟨rb, off, x, rfl, hx, hrg⟩ := (HR'.out.later (LA.out.trans (OL.out.low.mono LA.out.size))).out (i := i) (by omega)
      have RG := Lib.hid hrg
      have HX := Lib.hid hx
      have hem := emit_lat wa.heap.size b m v' _ x wr OL.out.lat (HF'.out x (List.mem_of_getElem? hx)) (by have := emits_more_len L U i LL.out; omega) OL.out.low.size
      generalize adds (emits L (U.take i)) x = t at hem
      have HEM := Lib.hid hem
      clear hrg hx hem
      go_wp2_with (first
        | (refine wpList_load_out rfl _ rfl rb (off + i * 5) rfl x RG.out ?_)
        | (go_at_call 11; refine HEM.out.mono ?_; rintro r w5 ⟨rfl, v5, l5, f5, s5⟩; have P5 := Lib.hid (OL.out.after f5 l5); have O5 := Lib.hid (OwL.beside f5 O8.out N8.out);
           have N5 : Hid (∀ j, v7.ownBlock = some j → ¬ LatF b m v5 j) := Lib.hid (fun j hj hc => by rcases latF_step s5 hc with h | h; exact N8.out j hj h; have := (O8.out.1.lt j hj).2; omega);
           clear l5 f5 s5))
      go_roundg (n - (i + 1))
      case measure => have := G.out; omega
      case rel =>
        refine ⟨i + 1, v5, by omega, by simp, ?_, O5.out, N5.out⟩
        rw [take_next' HX.out, emits_snoc]
        exact P5.out
    · have hi : i = n := by have := G.out; omega
      subst hi
      obtain ⟨L', hL'⟩ : ∃ L', emits L (U.take i) = L' := ⟨_, rfl⟩
      obtain ⟨T, hT⟩ := emits_begin (U.take i) L
      have hlen := emits_more_len L U i LL.out
      rw [hL'] at OL hlen hT
      have HT := Lib.hid hT
      have LL' : Hid (L'.length ≤ 200) := Lib.hid (by omega)
      clear hL' hT hlen
      obtain ⟨A7, n7, c7, hv7, r7, nl7, nc7, _⟩ := O8.out.row'
      subst hv7
      have hf1 : ∀ x ∈ L, x.Fits := fun x hx => OL.out.lat.fits x (by rw [HT.out]; exact List.mem_append_left _ hx)
      have hf2 : ∀ x ∈ L', x.Fits := OL.out.lat.fits
      have F1 := Lib.hid hf1
      have F2 := Lib.hid hf2
      clear r7 nc7 hf1 hf2
      have hex : ((i : Int) < l1 ∧ ¬ (i : Int) < 100) ∨ ¬ (i : Int) < l1 := by omega
      rcases hex with ⟨hi1, hi2⟩ | hi1
      all_goals (
        go_wp2_with (first
          | (go_at_call 18; refine (all_lat wa.heap.size b m v' L' wr OL.out.lat (by have := LL'.out; omega)).mono ?_; rintro r w5 ⟨v9, rfl, o9, b9⟩; have P5 := Lib.hid (OL.out.below b9); have O5 := Lib.hid (O8.out.below b9);
             obtain ⟨A9, n9, c9, hv9, r9, nl9, nc9, _⟩ := o9.row'; subst hv9;
             have h79 : ¬ (n9 : Int) < n7 := (by have h1 := nl9.out; have h2 := nl7.out; rw [HT.out, List.length_append] at h1; omega);
             have O9 := Lib.hid o9; have R9 := Lib.hid r9; have C9 := Lib.hid nc9; clear o9 b9 r9 nc9))
        have h79' : n7 ≤ n9 := by omega
        obtain ⟨At, ht, rt⟩ := run_slice_take (kd := .i64) (k := n7) out_slice sizeOfO R9.out C9.out h79'
        obtain ⟨Ad, hd, rd⟩ := run_slice_drop (kd := .i64) (k := n7) out_slice sizeOfO R9.out C9.out h79'
        obtain ⟨q, hq⟩ : ∃ q, n9 - n7 = q := ⟨_, rfl⟩
        obtain ⟨cq, hcq⟩ : ∃ cq, c9 - n7 = cq := ⟨_, rfl⟩
        rw [hq, hcq] at hd
        rw [hq] at rd
        have e1 : L'.take n7 = L := by rw [HT.out, ← nl7.out]; simp
        rw [e1] at rt
        have hs1 : ∀ wx, Below w5.heap.size w5 wx → Calls Try.prog 17 #[.slice At n7 c9, .slice A7 n7 c7] wx fun r w' => r = .returned (.bool true) ∧ Below wx.heap.size wx w' := fun wx hb => by
          have := rsame_any At A7 n7 c9 n7 c7 L L wx (rt.later hb) ((O5.out.row.1).later hb) F1.out F1.out
          rwa [decide_eq_true rfl] at this
        have hs2 : ∀ wx, Below w5.heap.size w5 wx → Calls Try.prog 19 #[.pointer (some ⟨b, 0, none⟩), .int .i64 n7] wx fun r w' => ∃ u, r = .returned u ∧ OutR w' wx.heap.size u (L'.drop n7) ∧ Below wx.heap.size wx w' := fun wx hb => by
          have := since_lat wa.heap.size b m v' L' n7 wx (P5.out.lat.below hb) (by have := LL'.out; omega)
          rwa [Int.toNat_natCast] at this
        have hs3 : ∀ (A : Option Addr) (k c : Nat) wx, RowR orec wx A k (L'.drop n7) → Below w5.heap.size w5 wx → Calls Try.prog 17 #[.slice A k c, .slice Ad q cq] wx fun r w' => r = .returned (.bool true) ∧ Below wx.heap.size wx w' := fun A k c wx hr hb => by
          have := rsame_any A Ad k c q cq (L'.drop n7) (L'.drop n7) wx hr (rd.later hb) (fun x hx => F2.out x (List.mem_of_mem_drop hx)) (fun x hx => F2.out x (List.mem_of_mem_drop hx))
          rwa [decide_eq_true rfl] at this
        have S1 := Lib.hid hs1
        have S2 := Lib.hid hs2
        have S3 := Lib.hid hs3
        have D0 : Hid (Below w5.heap.size w5 w5.drew) := Lib.hid (ali_below (drew_ali _))
        clear hs1 hs2 hs3 rt rd hq hcq e1 R9 C9 O9 N7 N8 H1 H2 O7 nl7 nl9
        go_region_held3 (fun _ => True) (exact trivial)
          (first
            | (go_at_call 17; refine (S3.out A8 n8 c8 _ r8 t2).mono ?_; rintro r wz ⟨rfl, bz⟩; have t3 := t2.trans (bz.mono t2.size))
            | (go_at_call 19; refine (S2.out _ t1).mono ?_; rintro r wy ⟨u, rfl, ou, bY⟩; obtain ⟨A8, n8, c8, hu8, r8, _, _, _⟩ := ou.row'; subst hu8; have t2 := t1.trans (bY.mono t1.size))
            | (go_at_call 17; refine (S1.out _ D0.out).mono ?_; rintro r wx ⟨rfl, bx⟩; have t1 := D0.out.trans (bx.mono D0.out.size)))
        go_wp2
        go_ret
        exact ⟨rfl, LA.out.trans ((P5.out.low.trans (t3.mono P5.out.low.size)).mono LA.out.size)⟩)

set_option maxRecDepth 100000 in
theorem lifted (os : Os) (started : os.Started) (H : Type) (enc : TypeId × Value → H) :
    ReturnsInHanded {} Try.checked os 5 .any (Rows.latchStaysSpec.pre6 enc Try.prog Try.f5 Rows.latchStaysRow.domain false) (Rows.latchStaysSpec.post enc Try.prog Try.f5 false true false false) := by
  refine returnsInHanded_of_change_sized (C := Try.checked) own started (by kernel_rfl) Try.func5
    (ChangeSpec.witness6 (enc := enc) (C := Try.checked) false ⟨#[], #[.slice none 0 0, .slice none 0 0], []⟩ 8 (by kernel_rfl) (by kernel_rfl) (by kernel_rfl) (by kernel_rfl)) ?_
  intro W base args ds gs before hval0 hW hcnd hsz0 _
  have hval : ∀ (j : Nat) t v, Try.f5.params[j]? = some t → args[j]? = some v → Value.okWide Try.prog W .any base t v := hval0
  have hsz : (DataW.weightsEach Try.prog (Try.f5.params.toList ++ Rows.latchStaysSpec.plain.varTypes Try.prog) (ds ++ gs)).all (· ≤ reachBytes) = true := hsz0
  have hW' := hW
  obtain ⟨p, q, hA0, hV, rfl, hfz, hnd⟩ := hW
  have hA : DataW.TrodAll enc Try.prog W 0 (fun _ => true) true Try.f5.params.toList args.toList ds p := hA0
  rw [Try.params5] at hA hval hsz
  have hAk := hA
  obtain ⟨v0, vs0, d0, ds0, p0, q0, hargs, rfl, rfl, h0, r0⟩ := trodAll_cons hA
  obtain ⟨v1, vs1, d1, ds1, p1, q1, rfl, rfl, rfl, h1, r1⟩ := trodAll_cons r0
  obtain ⟨rfl, rfl, rfl⟩ := trodAll_nil r1
  obtain rfl : args = #[v0, v1] := by cases args; simp_all
  obtain ⟨rfl, rfl⟩ := trodVars_none hV
  obtain ⟨a0, l0, k0, L0, rfl, w0⟩ := open_slice_flat (ks := [.int .i64, .int .i64, .int .i64, .int .i64, .int .u64]) (bytes := 40) 8 Try.underlying22 (by kernel_rfl) (by kernel_rfl) (by decide) (by kernel_rfl) (hval 0 22 v0 rfl rfl) h0 (fun elems rest hd => by subst hd; exact sized_slice hsz (j := 0) (t := 22) (e := 29) rfl rfl Try.underlying22)
  obtain ⟨a1, l1, k1, L1, rfl, w1⟩ := open_slice_flat (ks := [.int .i64, .int .i64, .int .i64, .int .i64, .int .u64]) (bytes := 40) 8 Try.underlying22 (by kernel_rfl) (by kernel_rfl) (by decide) (by kernel_rfl) (hval 1 22 v1 rfl rfl) h1 (fun elems rest hd => by subst hd; exact sized_slice hsz (j := 1) (t := 22) (e := 29) rfl rfl Try.underlying22)
  clear hA0 hval0 hsz0
  refine (walk W a0 l0 k0 L0 w0 a1 l1 k1 L1 w1).mono fun e W' ⟨he, bel⟩ => ?_
  subst he
  exact ⟨_, rfl, _, _, _, [], _, [], hW', trodAll_mk1 (shut_bool Try.underlying4 _), trodAll_below laidOut bel _ _ _ _ (by kernel_rfl) hAk, rfl, bel.frame _, fun h => by cases h⟩

theorem over : Rows.latchStaysRow.holds Try.pinned (OpenSpec.ofChange Rows.latchStaysSpec) :=
  OpenClaim.holds_of_wide 5 Try.f5 rfl rfl rfl rfl rfl rfl rfl ⟨rfl, rfl, rfl, rfl, rfl⟩ rfl rfl rfl rfl rfl (by kernel_rfl) Try.func5 (by kernel_rfl)
    (of_decide_eq_true (by kernel_rfl)) (by unfold Func.isWrapper; first | (rw [if_pos (by decide +kernel)]; kernel_rfl) | (rw [if_neg (by decide +kernel)]; exact ⟨rfl, rfl⟩))
    (fun os started H enc _ => lifted os started H enc)

theorem proved : Rows.LatchStaysSaid := over
#print axioms proved
end Go.Proofs.Ytgbhkfefdeahdaa.latchStays
