/- Layer 13: the document's Split. -/
import Derived.Test.YtpfmjocpgnoepaaRef13b
import Derived.Test.YtpfmjocpgnoepaaBatSplit
namespace Go.Proofs.Ytpfmjocpgnoepaa
set_option linter.unusedVariables false
open Go.ChangeShapes Go.WideShapes Go.ChangeAt Go.RowKit

/-- The values alone. -/
def valL (zs : List Int) (ms : List P2) (vs : List Int) : List Int := if splitY zs ms vs then ms.map (fun x => vs.getD x.b.toNat 0) else []

theorem grown_base' {α : Type} {R : Rec α} {w w' W : World} {base : Nat} {e : TypeId} {v : Value} {V : List α} (hB : Below base W w) (hz : base ≤ w.heap.size) (gr : w.grownBy w' v.ownBlock) (own : OwnR R w base e v V) : Below base W w' := hB.trans (grown_low gr hz (fun b hb => own.low b hb))
set_option maxRecDepth 100000 in
set_option maxHeartbeats 2000000 in
theorem rsplit_any (A : Option Addr) (n c : Nat) (M : Option Addr) (m d : Nat) (zs : List Int) (ms : List P2) (B : Option Addr) (k e : Nat) (vs : List Int) (w : World) (h : Bat w A n c M m d zs ms) (hv : RowR irec w B k vs) (hm : m ≤ 1000) :
    Calls Try.prog 27 #[batV A n c M m d, .slice B k e] w fun r w' => ∃ P q f, r = .returned (.tuple #[.slice P q f, .bool (splitY zs ms vs)]) ∧ RowR irec w' P q (valL zs ms vs) ∧ q ≤ f ∧ Below w.heap.size w w' := by
  have hal := h.alen
  have hvl := hv.1
  have hkm := hv.2.1
  unfold maxLen at hkm
  have HB := Lib.hid (h.below (below_alloc w (bobj 25 A n c M m d)))
  have HV := Lib.hid (hv.later (below_alloc w (bobj 25 A n c M m d)))
  have ML := Lib.hid h.mlen
  have B0 := Lib.hid (below_alloc w (bobj 25 A n c M m d))
  have K0 := Lib.hid (heap_alloc_at w (bobj 25 A n c M m d))
  clear h hv
  by_cases hkn : k = n
  case neg =>
    have hkn' : ((k : Int) != n) = true := by simp; omega
    have hy : splitY zs ms vs = false := by simp [splitY, hal, hvl, hkn]
    have HY := Lib.hid hy
    clear hy hal hvl hkn
    go_enter Try.func27, Try.ntmps27
    go_wp2
    go_ret2
    have hv0 : valL zs ms vs = [] := by simp [valL, HY.out]
    rw [HY.out, hv0]
    exact ⟨none, 0, 0, rfl, RowR.nil _, Nat.le_refl _, B0.out⟩
  case pos =>
    subst hkn
    have hvn : vs.length = zs.length := by omega
    have VN := Lib.hid hvn
    have VL := Lib.hid hvl
    obtain ⟨x0, x1⟩ := bobj_cells K0.out
    obtain ⟨W, hW⟩ : ∃ W, w.alloc (bobj 25 A k c M m d) = W := ⟨_, rfl⟩
    rw [hW] at HB HV B0 K0 x0 x1
    clear hal hvl hvn
    go_enter Try.func27, Try.ntmps27
    go_wp2
    clear hW x0 x1
    go_loopg [7, 6] m (fun g v7 v6 wr => ∃ j : Nat, j + g = m ∧ v7 = .int .i64 j ∧ (∀ x ∈ ms.take j, okM vs.length x = true) ∧ OwnR irec wr W.heap.size 3 v6 ((ms.take j).map (fun x => vs.getD x.b.toNat 0)) ∧ Below W.heap.size W wr)
    case atStart => exact ⟨0, by omega, rfl, by simp, by simpa using OwnR.nil _ _ _, Below.refl _ _⟩
    case round =>
      obtain ⟨j, hj, rfl, hok, hown, hl⟩ := hrel
      have G := Lib.hid hj
      have OK := Lib.hid hok
      have OWN := Lib.hid hown
      have L := Lib.hid hl
      clear hj hok hown hl
      obtain ⟨x0, x1⟩ := bobj_cells (kb_below K0.out L.out)
      by_cases hjm : j < m
      · have hj1 : (j : Int) < m := by omega
        obtain ⟨mb, mo, x, rfl, hx, q0, q1⟩ := (HB.out.below L.out).mr.pair_at hjm
        have HX := Lib.hid hx
        have hxm := List.mem_of_getElem? hx
        by_cases hb0 : x.b < 0
        · have hy : splitY zs ms vs = false := split_bad hxm (by simp [okM]; omega)
          have HY := Lib.hid hy
          clear hy hx q0 hxm OWN
          go_wp2
          go_ret2
          have hv0 : valL zs ms vs = [] := by simp [valL, HY.out]
          rw [HY.out, hv0]
          exact ⟨none, 0, 0, rfl, RowR.nil _, Nat.le_refl _, B0.out.trans (L.out.mono B0.out.size)⟩
        · by_cases hbk : (k : Int) ≤ x.b
          · have hy : splitY zs ms vs = false := split_bad hxm (by simp [okM, VL.out]; omega)
            have HY := Lib.hid hy
            clear hy hx q0 hxm OWN
            go_wp2
            go_ret2
            have hv0 : valL zs ms vs = [] := by simp [valL, HY.out]
            rw [HY.out, hv0]
            exact ⟨none, 0, 0, rfl, RowR.nil _, Nat.le_refl _, B0.out.trans (L.out.mono B0.out.size)⟩
          · obtain ⟨t, ht⟩ : ∃ t : Nat, x.b = t := ⟨x.b.toNat, by omega⟩
            have htk : t < k := by omega
            obtain ⟨vb, vo, y, rfl, hy, q2⟩ := (HV.out.later L.out).int_at htk
            have hval : vs.getD x.b.toNat 0 = y := by rw [ht, Int.toNat_natCast, List.getD_eq_getElem?_getD, hy]; rfl
            have hoks : okM vs.length x = true := by simp [okM, VL.out]; omega
            rw [ht] at q1 hb0 hbk
            have ht1 : ¬ (k : Int) ≤ (t : Int) := by omega
            have ht2 : (t : Int) < (k : Int) := by omega
            have VAL := Lib.hid hval
            have OKX := Lib.hid hoks
            have O1 := Lib.hid (OwnR.alloc OWN.out (.cells #[.int .i64 y] 3))
            have S1 := Lib.hid (RowR.one (R := irec) wr y 3 (cs := #[.int .i64 y]) rfl)
            have LN : Hid (((ms.take j).map (fun x => vs.getD x.b.toNat 0)).length + 1 ≤ 1048576) := Lib.hid (by rw [List.length_map, List.length_take]; omega)
            have BB := Lib.hid (L.out.alloc L.out.size (.cells #[.int .i64 y] 3))
            clear hx hxm hval hoks q0 hy OWN
            go_wp2_with (first
              | (at_builtin; refine wpList_appS tI (base := W.heap.size) rfl (.tmp 36) (.tmp 41) rfl rfl rfl O1.out S1.out LN.out BB.out.size ?_;
                 intro y9 w9 own gr _; have L9 := Lib.hid (grown_base' BB.out BB.out.size gr O1.out); have O9 := Lib.hid own; clear own gr))
            go_roundg (m - (j + 1))
            case measure => have := G.out; omega
            case rel =>
              refine ⟨j + 1, by omega, by simp, ?_, ?_, L9.out⟩
              · rw [take_more HX.out]
                intro z hz
                rcases List.mem_append.1 hz with hz | hz
                · exact OK.out z hz
                · rw [List.mem_singleton.1 hz]; exact OKX.out
              · rw [take_more HX.out, List.map_append, List.map_cons, List.map_nil, VAL.out]
                exact O9.out
      · have hj1 : ¬ (j : Int) < m := by omega
        have hjm' : j = m := by have := G.out; omega
        have hall : ms.take j = ms := List.take_of_length_le (by rw [ML.out]; omega)
        rw [hall] at OK OWN
        have hy : splitY zs ms vs = true := by
          unfold splitY
          rw [Bool.and_eq_true, decide_eq_true_eq, List.all_eq_true]
          exact ⟨VN.out, OK.out⟩
        have hv1 : valL zs ms vs = ms.map (fun x => vs.getD x.b.toNat 0) := by simp [valL, hy]
        obtain ⟨P, q, f, hv6, rp, _, hqf, _⟩ := OWN.out.row'
        subst hv6
        have HY := Lib.hid hy
        have HV1 := Lib.hid hv1
        have RP := Lib.hid rp
        clear hy hv1 rp hall OWN
        go_wp2
        go_ret2
        rw [HY.out, HV1.out]
        exact ⟨P, q, f, rfl, RP.out, hqf, B0.out.trans (L.out.mono B0.out.size)⟩
end Go.Proofs.Ytpfmjocpgnoepaa
