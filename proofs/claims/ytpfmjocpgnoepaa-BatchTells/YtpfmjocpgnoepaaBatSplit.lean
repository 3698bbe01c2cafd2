/- Contracts of package batch: Split. -/
import Derived.Test.YtpfmjocpgnoepaaBat
namespace Go.Proofs.Ytpfmjocpgnoepaa
set_option linter.unusedVariables false
open Go.ChangeShapes Go.WideShapes Go.ChangeAt Go.RowKit

/-- Whether a member has a place among so many; what Split tells. -/
def okM (k : Nat) (x : P2) : Bool := decide (0 ≤ x.b ∧ x.b < (k : Int))
def pairL (ms : List P2) (vs : List Int) : List P2 := ms.map (fun x => ⟨x.a, vs.getD x.b.toNat 0⟩)
def splitY (zs : List Int) (ms : List P2) (vs : List Int) : Bool := decide (vs.length = zs.length) && ms.all (okM vs.length)
def splitL (zs : List Int) (ms : List P2) (vs : List Int) : List P2 := if splitY zs ms vs then pairL ms vs else []
theorem split_bad {zs : List Int} {ms : List P2} {vs : List Int} {x : P2} (hx : x ∈ ms) (h : okM vs.length x = false) : splitY zs ms vs = false := by
  unfold splitY
  rw [Bool.and_eq_false_iff]
  refine .inr ?_
  rw [List.all_eq_false]
  exact ⟨x, hx, by simp [h]⟩
theorem splitL_no {zs : List Int} {ms : List P2} {vs : List Int} (h : splitY zs ms vs = false) : splitL zs ms vs = [] := by simp [splitL, h]
theorem splitL_yes {zs : List Int} {ms : List P2} {vs : List Int} (h : splitY zs ms vs = true) : splitL zs ms vs = pairL ms vs := by simp [splitL, h]
theorem pairL_snoc (ms : List P2) (vs : List Int) (x : P2) : pairL (ms ++ [x]) vs = pairL ms vs ++ [⟨x.a, vs.getD x.b.toNat 0⟩] := by simp [pairL]
theorem pairL_len (ms : List P2) (vs : List Int) : (pairL ms vs).length = ms.length := by simp [pairL]

set_option maxRecDepth 100000 in
set_option maxHeartbeats 2000000 in
theorem bsplit_fr (A : Option Addr) (n c : Nat) (M : Option Addr) (m d : Nat) (zs : List Int) (ms : List P2) (B : Option Addr) (k e : Nat) (vs : List Int) (w : World) (h : Bat w A n c M m d zs ms) (hv : RowR irec w B k vs) (hm : m ≤ 1000) :
    Calls Try.prog 34 #[batV A n c M m d, .slice B k e] w fun r w' => ∃ P q f, r = .returned (.tuple #[.slice P q f, .bool (splitY zs ms vs)]) ∧ RowR prec w' P q (splitL zs ms vs) ∧ q ≤ f ∧ Fresh w.heap.size P ∧ Below w.heap.size w w' := by
  have hal := h.alen
  have hvl := hv.1
  have HB := Lib.hid h
  have HV := Lib.hid hv
  have ML := Lib.hid h.mlen
  clear h hv
  by_cases hkn : k = n
  case neg =>
    have hkn' : ((k : Int) != n) = true := by simp; omega
    have hy : splitY zs ms vs = false := by simp [splitY, hal, hvl, hkn]
    have HY := Lib.hid hy
    clear hy hal hvl hkn
    go_enter Try.func34, Try.ntmps34
    go_wp2
    go_ret2
    rw [HY.out, splitL_no HY.out]
    exact ⟨none, 0, 0, rfl, RowR.nil _, Nat.le_refl _, Fresh.none _, below_alloc w _⟩
  case pos =>
    have hkn' : ((k : Int) != n) = false := by simp; omega
    have VL := Lib.hid hvl
    have hvn : vs.length = zs.length := by omega
    have VN := Lib.hid hvn
    have B0 := Lib.hid (below_alloc w (bobj 34 A n c M m d))
    clear hkn hal hvl hvn
    go_enter Try.func34, Try.ntmps34
    go_wp2_with (first
      | (refine wpList_makeS tP rfl _ _ rfl rfl rfl (by omega) ?_; intro w1 o1 b1;
         have o1' := o1.mono B0.out.size; rw [show (w.alloc (Obj.cells #[.slice A n c, .slice M m d] 34)).heap.size = w.heap.size + 1 by simp] at o1';
         have O1 := Lib.hid o1'; have B1 := Lib.hid (B0.out.trans (b1.mono B0.out.size));
         obtain ⟨c0, c1⟩ := bobj_cells (kb_below (heap_alloc_at w (bobj 34 A n c M m d)) b1); clear o1 b1 o1'))
    go_loopg [22, 6] m (fun g v22 v6 wr => ∃ j : Nat, j + g = m ∧ v22 = .int .i64 j ∧ (∀ x ∈ ms.take j, okM k x = true) ∧ OwnR prec wr w.heap.size 73 v6 (pairL (ms.take j) vs) ∧ Below w.heap.size w wr)
    case atStart => exact ⟨0, by omega, rfl, by simp, O1.out, B1.out⟩
    case round =>
      obtain ⟨j, hj, rfl, hok, hown, hbel⟩ := hrel
      have HJ := Lib.hid hj
      have OK := Lib.hid hok
      have OW := Lib.hid hown
      have BR := Lib.hid hbel
      clear hj hok hown hbel c0 c1 O1
      by_cases hlt : j < m
      · have hlt' : (j : Int) < m := by omega
        obtain ⟨b, off, x, rfl, hx, q0, q1⟩ := (HB.out.mr.later BR.out).pair_at hlt
        obtain ⟨xa, xb⟩ := x
        simp only at q0 q1
        have HX := Lib.hid hx
        clear hx
        by_cases hneg : xb < 0
        · have hbad : okM vs.length ⟨xa, xb⟩ = false := by simp [okM]; omega
          have hy := split_bad (zs := zs) (List.mem_of_getElem? HX.out) hbad
          have HY := Lib.hid hy
          clear hbad hy
          go_wp2
          go_ret2
          rw [HY.out, splitL_no HY.out]
          exact ⟨none, 0, 0, rfl, RowR.nil _, Nat.le_refl _, Fresh.none _, BR.out.alloc BR.out.size _⟩
        · by_cases hbig : (k : Int) ≤ xb
          · have hbad : okM vs.length ⟨xa, xb⟩ = false := by simp [okM, VL.out]; omega
            have hy := split_bad (zs := zs) (List.mem_of_getElem? HX.out) hbad
            have HY := Lib.hid hy
            clear hbad hy
            go_wp2
            go_ret2
            rw [HY.out, splitL_no HY.out]
            exact ⟨none, 0, 0, rfl, RowR.nil _, Nat.le_refl _, Fresh.none _, BR.out.alloc BR.out.size _⟩
          · obtain ⟨q, rfl⟩ := Int.eq_ofNat_of_zero_le (by omega : 0 ≤ xb)
            obtain ⟨vb, vo, z, rfl, hz, q2⟩ := (HV.out.later BR.out).int_at (i := q) (by omega)
            have HZ := Lib.hid hz
            have hq0 : (0 : Int) ≤ (q : Int) := by omega
            have hqk : (q : Int) < (k : Int) := by omega
            clear hz
            go_wp2
            generalize hW : wr.alloc (.cells #[.int .i64 xa, .int .i64 (q : Int)] 105) = W
            have hk : W.heap[wr.heap.size]? = some (.cells #[.int .i64 xa, .int .i64 (q : Int)] 105) := by rw [← hW]; exact heap_alloc_at wr _
            have hbW : Below wr.heap.size wr W := by rw [← hW]; exact below_alloc wr _
            have hszW : W.heap.size = wr.heap.size + 1 := by rw [← hW]; simp
            have hown := OW.out
            have hs : ∀ wx : World, (∀ i, i < W.heap.size → some i ≠ u6.ownBlock → wx.heap[i]? = W.heap[i]?) → wx.cell? ⟨wr.heap.size, 0, none⟩ = some (.int .i64 xa) ∧ wx.cell? ⟨wr.heap.size, 1, none⟩ = some (.int .i64 (q : Int)) ∧ wx.cell? ⟨vb, vo + q, none⟩ = some (.int .i64 z) := fun wx hx => by
              have h1 : wx.heap[wr.heap.size]? = some (.cells #[.int .i64 xa, .int .i64 (q : Int)] 105) := (hx _ (by omega) (fun e => by have := (hown.1.lt _ e.symm).2; omega)).trans hk
              refine ⟨by rw [cell_of h1]; rfl, by rw [cell_of h1]; rfl, ?_⟩
              have hv0 := HV.out.int_at (i := q) (by omega)
              obtain ⟨vb', vo', z', e', _, hc'⟩ := hv0
              cases e'
              have hlt0 : vb < w.heap.size := cell_lt hc'
              have hlt1 : vb < wr.heap.size := cell_lt q2
              refine (World.cell?_of_block (hx vb (by omega) (fun e => by have := (hown.1.lt _ e.symm).1; omega))).trans ?_
              exact (World.cell?_of_block (hbW.block vb hlt1)).trans q2
            have D0 : Hid (Below W.heap.size W W.drew) := Lib.hid (ali_below (drew_ali _))
            have D1 : Hid (Below W.heap.size W (W.drew.alloc (.cells #[.int .i64 xa, .int .i64 z] 73))) := Lib.hid (D0.out.alloc D0.out.size _)
            have OWN := Lib.hid ((OwnR.below hown hbW).below D1.out)
            have SRC := Lib.hid (RowR.one (R := prec) W.drew ⟨xa, z⟩ 73 (cs := #[.int .i64 xa, .int .i64 z]) rfl)
            have LEN : Hid ((pairL (ms.take j) vs).length + 1 ≤ 1048576) := Lib.hid (by rw [pairL_len, List.length_take]; omega)
            have BAS : Hid (w.heap.size ≤ (W.drew.alloc (.cells #[.int .i64 xa, .int .i64 z] 73)).heap.size) := Lib.hid (by have h1 := BR.out.size; have h2 := D1.out.size; omega)
            have HS := Lib.hid hs
            have BW := Lib.hid (BR.out.trans (hbW.mono BR.out.size))
            clear hs hown hbW hszW hk hW q0 q1 q2
            go_region_held3 (fun wx => wx.cell? ⟨wr.heap.size, 0, none⟩ = some (.int .i64 xa) ∧ wx.cell? ⟨wr.heap.size, 1, none⟩ = some (.int .i64 (q : Int)) ∧ wx.cell? ⟨vb, vo + q, none⟩ = some (.int .i64 z))
              (first
                | exact HS.out _ (fun i hi _ => D0.out.block i hi)
                | exact HS.out _ (fun i hi _ => D1.out.block i hi)
                | exact HS.out _ s6)
              (first
                | (refine appS_step tP (base := w.heap.size) rfl (.tmp 36) (.tmp 45) rfl rfl rfl OWN.out SRC.out LEN.out BAS.out ?_;
                   intro v6 w6 own6 gr6 _; have s6 : ∀ i, i < W.heap.size → some i ≠ u6.ownBlock → w6.heap[i]? = W.heap[i]? := (fun i hi hn => (gr6.block i (Nat.lt_of_lt_of_le hi D1.out.size) hn).trans (D1.out.block i hi));
                   have O6 := Lib.hid own6; have L6 := Lib.hid ((BW.out.trans (D1.out.mono BW.out.size)).trans (grown_low gr6 BAS.out OWN.out.low)); clear own6 gr6))
            clear s6
            go_wp2
            go_roundg (m - (j + 1))
            case measure => have := HJ.out; omega
            case rel =>
              refine ⟨j + 1, by omega, by simp, ?_, ?_, L6.out⟩
              · rw [take_more HX.out]
                intro y hy
                rcases List.mem_append.1 hy with hy | hy
                · exact OK.out y hy
                · rw [List.mem_singleton.1 hy]; simp [okM]; omega
              · rw [take_more HX.out, pairL_snoc]
                have e : vs.getD (q : Int).toNat 0 = z := by rw [Int.toNat_natCast, List.getD_eq_getElem?_getD, HZ.out]; rfl
                simp only [e]
                exact O6.out
      · have hjm : j = m := by have := HJ.out; omega
        subst hjm
        have hlt' : ¬ (j : Int) < j := by omega
        obtain ⟨P, q, f, hv6, r6, _, hqf, _⟩ := OW.out.row'
        subst hv6
        have R6 := Lib.hid r6
        have hy : splitY zs ms vs = true := by
          have h1 := OK.out
          rw [List.take_of_length_le (by rw [ML.out]; omega)] at h1
          simp only [splitY, VN.out, decide_true, Bool.true_and, List.all_eq_true]
          rw [← VN.out, VL.out]
          exact h1
        have HY := Lib.hid hy
        clear hy r6
        go_wp2
        go_ret2
        rw [HY.out, splitL_yes HY.out]
        have h2 := R6.out
        rw [List.take_of_length_le (by rw [ML.out]; omega)] at h2
        exact ⟨_, _, _, rfl, h2, hqf, OW.out.fresh, BR.out⟩
theorem bsplit_any (A : Option Addr) (n c : Nat) (M : Option Addr) (m d : Nat) (zs : List Int) (ms : List P2) (B : Option Addr) (k e : Nat) (vs : List Int) (w : World) (h : Bat w A n c M m d zs ms) (hv : RowR irec w B k vs) (hm : m ≤ 1000) :
    Calls Try.prog 34 #[batV A n c M m d, .slice B k e] w fun r w' => ∃ P q f, r = .returned (.tuple #[.slice P q f, .bool (splitY zs ms vs)]) ∧ RowR prec w' P q (splitL zs ms vs) ∧ q ≤ f ∧ Below w.heap.size w w' := by
  refine (bsplit_fr A n c M m d zs ms B k e vs w h hv hm).mono ?_
  rintro r w' ⟨P, q, f, h1, h2, h3, _, h4⟩
  exact ⟨P, q, f, h1, h2, h3, h4⟩
end Go.Proofs.Ytpfmjocpgnoepaa
