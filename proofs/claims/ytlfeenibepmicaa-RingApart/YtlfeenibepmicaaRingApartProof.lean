/- What is proved: RingApart of porpoiselaw04 answers true for every input, and leaves its arguments as they were; conditions: those of the given row alone. -/
import Derived.Test.YtlfeenibepmicaaKit
import Derived.Test.YtlfeenibepmicaaLaw04
namespace Go.Proofs.Ytlfeenibepmicaa.ringApart
open Go.ChangeShapes Go.WideShapes Go.ChangeAt Go.RowKit Go.Deep
open Go.ChangeMaps (open_string shut_string)
set_option linter.unusedVariables false

theorem own : ownKnob Try.prog.godebug = none := by kernel_rfl
theorem laidOut : laidOutB Try.prog = true := by kernel_rfl

/-- The cells of the first list that are still to be turned. -/
def Left (wr : World) (A : Option Addr) (ga n i : Nat) (L : List Int) : Prop := n = 0 ∨ (A = some ⟨ga, 0, none⟩ ∧ ∃ cs, wr.heap[ga]? = some (.cells cs 3 (0, 0)) ∧ ∀ j, i ≤ j → j < n → cs[j]? = some (.int .i64 (L.getD j 0)))
theorem grown_set (w : World) (g o : Nat) (u : Value) : w.grownBy (w.setCell ⟨g, o, none⟩ u) (some g) :=
  ⟨rfl, rfl, rfl, by rw [heap_set_size]; exact Nat.le_refl _, fun k _ hk => heap_set_other (p := ⟨g, o, none⟩) (fun e => hk (by rw [e])) u⟩
theorem left_start {w : World} {base n c : Nat} {A : Option Addr} {L : List Int} (h : Ints w base (.slice A n c) L) : ∃ ga, Left w A ga n 0 L ∧ (n = 0 ∨ base ≤ ga ∧ ga < w.heap.size) := by
  have hl := h.row.2.1
  rcases h.1.2 with ⟨e, h0⟩ | ⟨g, cap, cur, e, hb, hh, hr⟩
  · exact ⟨0, .inl (by omega), .inl (by omega)⟩
  · injection e with e1 e2 e3
    subst e1
    refine ⟨g, .inr ⟨rfl, cur, hh, fun j _ hj => ?_⟩, .inr ⟨hb, heap_lt hh⟩⟩
    obtain ⟨bb, off, e, hc⟩ := h.row.1.at_ hj
    injection e with e
    injection e with e1 e2
    subst e1 e2
    rw [cell_of hh] at hc
    simpa using hc
theorem Left.below {w w' : World} {A : Option Addr} {ga n i : Nat} {L : List Int} (h : Left w A ga n i L) (hb : Below w.heap.size w w') : Left w' A ga n i L := by
  rcases h with h | ⟨e, cs, hh, hc⟩
  · exact .inl h
  · exact .inr ⟨e, cs, kb_below hh hb, hc⟩

set_option maxRecDepth 100000 in
set_option maxHeartbeats 2000000 in
theorem walk (w : World) (a0 : Option Addr) (l0 k0 : Nat) (L0 : List (List Value)) (w0 : SliceIn w [.int .i64, .int .i64] 16 a0 l0 k0 L0) :
    Calls Try.prog 7 #[.slice a0 l0 k0] w fun e w' => e = .returned (.bool true) ∧ Below w.heap.size w w' := by
  have W0 := Lib.hid w0
  clear w0
  go_enter Try.func7, Try.ntmps7
  go_wp2_with fail
  refine (awake_any _).mono ?_
  rintro r wa ⟨rfl, hba⟩
  have HA := Lib.hid hba
  clear hba
  go_wp2_with fail
  refine (ran_any w a0 l0 k0 L0 wa W0.out HA.out).mono ?_
  rintro r w1 ⟨b, rfl, L, h1⟩
  have H1 := Lib.hid h1
  clear h1
  go_wp2_with fail
  refine (list_ring b 5 L w1 H1.out.rng).mono ?_
  rintro r w2 ⟨v, rfl, hi, hb⟩
  obtain ⟨A, n, c, hv, _, hnl, hnc, hcm⟩ := own_row' hi
  subst hv
  obtain ⟨ga, hleft, hga⟩ := left_start (hi.mono H1.out.low.size)
  have H2 := Lib.hid (H1.out.below hb)
  clear hi hb
  go_wp2_with fail
  refine (list_ring b 5 L w2 H2.out.rng).mono ?_
  rintro r w3 ⟨v3, rfl, hi, hb⟩
  obtain ⟨B, m, d, hv, _, hml, _, _⟩ := own_row' hi
  subst hv
  have H3 := Lib.hid (H2.out.below hb)
  have LE := Lib.hid (hleft.below hb)
  have hne : n = 0 ∨ ((Value.slice B m d).ownBlock = none ∨ (Value.slice B m d).ownBlock ≠ some ga) := by
    rcases hga with h | h
    · exact .inl h
    · refine .inr (.inr fun e => ?_)
      have := hi.low ga e
      omega
  have NE := Lib.hid hne
  have GA := Lib.hid hga
  have I3 := Lib.hid (hi.mono H2.out.low.size)
  have hn5 : n ≤ 5 := by have := H1.out.rng.le; rw [hnl.out] at this; exact this
  clear hi hb hleft hga hne
  go_wp2
  go_loopg [7] n (fun g v7 wr => ∃ i : Nat, i + g = n ∧ v7 = .int .i64 i ∧ Ow w wr b 5 L ∧ Ints wr w.heap.size (.slice B m d) L ∧ Left wr A ga n i L)
  case atStart => exact ⟨0, by omega, rfl, H3.out, I3.out, LE.out⟩
  case round =>
    obtain ⟨i, hg, rfl, ho, hi, hle⟩ := hrel
    have G := Lib.hid hg
    have O := Lib.hid ho
    have I := Lib.hid hi
    clear hg
    by_cases hin : i < n
    · have hin' : (i : Int) < n := by omega
      obtain ⟨rfl, cs, hh, hc⟩ : A = some ⟨ga, 0, none⟩ ∧ ∃ cs, wr.heap[ga]? = some (.cells cs 3 (0, 0)) ∧ ∀ j, i ≤ j → j < n → cs[j]? = some (.int .i64 (L.getD j 0)) := by
        rcases hle with h | h
        · omega
        · exact h
      have hga : w.heap.size ≤ ga := by
        rcases GA.out with h | h
        · omega
        · exact h.1
      have hbg : b ≠ ga := Ne.symm (ho.rng.other hh (by decide))
      have q0 : wr.cell? ⟨ga, i, none⟩ = some (.int .i64 (L.getD i 0)) := by rw [cell_of hh]; exact hc i (Nat.le_refl _) hin
      have f0 := frozen_of hh i
      have hset : ∀ u, Ow w (wr.setCell ⟨ga, i, none⟩ u) b 5 L ∧ Ints (wr.setCell ⟨ga, i, none⟩ u) w.heap.size (.slice B m d) L ∧ Left (wr.setCell ⟨ga, i, none⟩ u) (some ⟨ga, 0, none⟩) ga n (i + 1) L := fun u => by
        refine ⟨⟨O.out.rng.keep (heap_set_other (p := ⟨ga, i, none⟩) hbg u), O.out.low.setCell (p := ⟨ga, i, none⟩) hga u, O.out.at_⟩, ?_, .inr ⟨rfl, _, heap_set_same hh u, fun j hj hjn => ?_⟩⟩
        · refine World.ownsInts.kept I.out (grown_set wr ga i u) ?_
          rcases NE.out with h | h
          · omega
          · exact h
        · rw [Array.getElem?_setIfInBounds_ne (by omega)]
          exact hc j (by omega) hjn
      have S := Lib.hid hset
      generalize L.getD i 0 = z at q0
      clear ho hi hle hh hc hset hbg
      go_wp2
      go_roundg (n - (i + 1))
      case measure => have := G.out; omega
      case rel => exact ⟨i + 1, by omega, by simp, S.out _⟩
    · have hin' : ¬ (i : Int) < n := by omega
      clear ho hi hle
      go_wp2_with fail
      refine (list_ring b 5 L wr O.out.rng).mono ?_
      rintro r w4 ⟨v4, rfl, hi, hb⟩
      obtain ⟨C, p, e, hv, hrow, hpl, _, _⟩ := own_row' hi
      subst hv
      have H4 := Lib.hid (O.out.below hb)
      have i4 := I.out.below hb
      have hsm := same_any C B p e m d L L w4 hrow hpl.out i4.row.1 i4.row.2.1
      rw [show decide (L = L) = true by simp] at hsm
      clear hi hb hrow i4
      go_wp2_with fail
      refine hsm.mono ?_
      clear hsm
      rintro r w5 ⟨rfl, ha⟩
      have H5 := Lib.hid (H4.out.ali ha)
      clear ha
      have hlen := len_ring b 5 L w5 H5.out.rng
      rw [hml.out] at hlen
      go_wp2_with fail
      refine hlen.mono ?_
      clear hlen
      rintro r w6 ⟨rfl, rfl⟩
      go_wp2
      go_ret
      exact ⟨rfl, H5.out.low⟩

set_option maxRecDepth 100000 in
theorem lifted (os : Os) (started : os.Started) (H : Type) (enc : TypeId × Value → H) :
    ReturnsInHanded {} Try.checked os 7 .any (Rows.ringApartSpec.pre6 enc Try.prog Try.f7 Rows.ringApartRow.domain false) (Rows.ringApartSpec.post enc Try.prog Try.f7 false true false false) := by
  refine returnsInHanded_of_change_sized (C := Try.checked) own started (by kernel_rfl) Try.func7
    (ChangeSpec.witness6 (enc := enc) (C := Try.checked) false ⟨#[], #[.slice none 0 0], []⟩ 8 (by kernel_rfl) (by kernel_rfl) (by kernel_rfl) (by kernel_rfl)) ?_
  intro W base args ds gs before hval0 hW hcnd hsz0 _
  have hval : ∀ (j : Nat) t v, Try.f7.params[j]? = some t → args[j]? = some v → Value.okWide Try.prog W .any base t v := hval0
  have hsz : (DataW.weightsEach Try.prog (Try.f7.params.toList ++ Rows.ringApartSpec.plain.varTypes Try.prog) (ds ++ gs)).all (· ≤ reachBytes) = true := hsz0
  have hW' := hW
  obtain ⟨p, q, hA0, hV, rfl, hfz, hnd⟩ := hW
  have hA : DataW.TrodAll enc Try.prog W 0 (fun _ => true) true Try.f7.params.toList args.toList ds p := hA0
  rw [Try.params7] at hA hval hsz
  have hAk := hA
  obtain ⟨v0, vs0, d0, ds0, p0, q0, hargs, rfl, rfl, h0, r0⟩ := trodAll_cons hA
  obtain ⟨rfl, rfl, rfl⟩ := trodAll_nil r0
  obtain rfl : args = #[v0] := by cases args; simp_all
  obtain ⟨rfl, rfl⟩ := trodVars_none hV
  obtain ⟨a0, l0, k0, L0, rfl, w0⟩ := open_slice_flat (ks := [.int .i64, .int .i64]) (bytes := 16) 8 Try.underlying22 (by kernel_rfl) (by kernel_rfl) (by decide) (by kernel_rfl) (hval 0 22 v0 rfl rfl) h0 (fun elems rest hd => by subst hd; exact sized_slice hsz (j := 0) (t := 22) (e := 30) rfl rfl Try.underlying22)
  clear hA0 hval0 hsz0
  refine (walk W a0 l0 k0 L0 w0).mono fun e W' ⟨he, bel⟩ => ?_
  subst he
  exact ⟨_, rfl, _, _, _, [], _, [], hW', trodAll_mk1 (shut_bool Try.underlying4 _), trodAll_below laidOut bel _ _ _ _ (by kernel_rfl) hAk, rfl, bel.frame _, fun h => by cases h⟩

theorem over : Rows.ringApartRow.holds Try.pinned (OpenSpec.ofChange Rows.ringApartSpec) :=
  OpenClaim.holds_of_wide 7 Try.f7 rfl rfl rfl rfl rfl rfl rfl ⟨rfl, rfl, rfl, rfl, rfl⟩ rfl rfl rfl rfl rfl (by kernel_rfl) Try.func7 (by kernel_rfl)
    (of_decide_eq_true (by kernel_rfl)) (by unfold Func.isWrapper; first | (rw [if_pos (by decide +kernel)]; kernel_rfl) | (rw [if_neg (by decide +kernel)]; exact ⟨rfl, rfl⟩))
    (fun os started H enc _ => lifted os started H enc)

theorem proved : Rows.RingApartSaid := over
#print axioms proved
end Go.Proofs.Ytlfeenibepmicaa.ringApart
