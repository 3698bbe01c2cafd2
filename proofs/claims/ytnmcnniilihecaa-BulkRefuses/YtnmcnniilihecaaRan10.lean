/- Layer 10: many deeds of a bulk and the document's beside each other (ran). -/
import Derived.Test.YtnmcnniilihecaaAwk10
import Derived.Deep.LoopGhost
import Derived.Deep.RegionHeld3
import Derived.Deep.DeepCutAuto
namespace Go.Proofs.Ytnmcnniilihecaa
set_option linter.unusedVariables false
open Go.ChangeShapes Go.WideShapes Go.ChangeAt Go.RowKit

/-- What a bulk is, whatever was done: so many workers, so long a queue, nobody but these. -/
structure BU.Of (n k : Nat) (T : List Int) (S : BU) : Prop where
  most : S.most = n
  que : S.que = k
  ids : ∀ z, z ∈ S.run ∨ z ∈ S.wait → z ∈ T
section
variable {n k : Nat} {T : List Int} {S : BU} {x y : Int} {l : List Int}
theorem BU.Of.none_ (n k : Nat) (T : List Int) : (BU.none_ n k).Of n k T := ⟨rfl, rfl, fun z hz => by simp [BU.none_] at hz⟩
theorem BU.Of.runs (h : S.Of n k T) (hx : x ∈ T) : (S.runs x).Of n k T := ⟨h.most, h.que, fun z hz => by
  rcases hz with hz | hz
  · rcases BU.mem_snoc hz with hz | rfl
    · exact h.ids z (.inl hz)
    · exact hx
  · exact h.ids z (.inr hz)⟩
theorem BU.Of.waits (h : S.Of n k T) (hx : x ∈ T) : (S.waits x).Of n k T := ⟨h.most, h.que, fun z hz => by
  rcases hz with hz | hz
  · exact h.ids z (.inl hz)
  · rcases BU.mem_snoc hz with hz | rfl
    · exact h.ids z (.inr hz)
    · exact hx⟩
theorem BU.Of.turn (h : S.Of n k T) (he : S.wait = y :: l) : (S.turn y l).Of n k T := ⟨h.most, h.que, fun z hz => by
  rcases hz with hz | hz
  · rcases BU.mem_snoc hz with hz | rfl
    · exact h.ids z (.inl hz)
    · exact h.ids _ (.inr (by rw [he]; simp))
  · exact h.ids z (.inr (by rw [he]; simp [show z ∈ l from hz]))⟩
theorem BU.Of.drop (h : S.Of n k T) (x : Int) : (S.drop x).Of n k T := ⟨h.most, h.que, fun z hz => h.ids z (hz.imp id List.mem_of_mem_erase)⟩
theorem BU.Of.free (h : S.Of n k T) (x : Int) : (S.free x).Of n k T := ⟨h.most, h.que, fun z hz => h.ids z (hz.imp List.mem_of_mem_erase id)⟩
theorem BU.Of.pick (h : S.Of n k T) : S.pick.Of n k T := by
  unfold BU.pick
  cases he : S.wait with
  | nil => exact h
  | cons y l =>
    simp only []
    split
    · exact h.turn he
    · exact h
theorem BU.Of.adm (h : S.Of n k T) (hx : x ∈ T) : (S.adm x).Of n k T := by
  unfold BU.adm
  split
  · exact h
  · split
    · exact h.runs hx
    · split
      · exact h.waits hx
      · cases he : S.wait with
        | nil => exact h
        | cons y l =>
          simp only []
          split
          · exact (h.turn he).waits hx
          · exact h
theorem BU.Of.deed (h : S.Of n k T) (kd : Int) (hx : x ∈ T) : (S.deed kd x).Of n k T := by
  unfold BU.deed
  split
  · exact h.adm hx
  · split
    · exact h.pick
    · split
      · exact h.drop x
      · exact h.free x
end

/-- A row of the call's own grows: a bulk, and rows apart from it, stay. -/
theorem Ints.grown {w w' : World} {base : Nat} {u v : Value} {us : List Int} (h : Ints w base u us) (hg : w.grownBy w' v.ownBlock) (hn : ∀ g, u.ownBlock = some g → v.ownBlock ≠ some g) : Ints w' base u us := by
  refine ⟨⟨h.1.1, ?_⟩, h.2⟩
  rcases h.1.2 with h0 | ⟨g, cap, cur, hv, hb, hh, hr⟩
  · exact .inl h0
  · refine .inr ⟨g, cap, cur, hv, hb, ?_, hr⟩
    rw [hg.block g (heap_lt hh) (fun e => hn g (by rw [hv]; rfl) e.symm)]
    exact hh
theorem OwU.grown {w0 w w' : World} {b : Nat} {f : Fb} {S : BU} {v : Value} {zs : List Int} (h : OwU w0 w b f S) (hi : Ints w w0.heap.size v zs) (hg : w.grownBy w' v.ownBlock) : OwU w0 w' b f S := by
  have hb := grown_below hg h.low.size hi.low
  cases hv : v.ownBlock with
  | none =>
    rw [hv] at hg
    exact h.below ⟨hg.os, hg.tape, hg.output, hg.size, fun j hj => hg.block j hj (by simp)⟩
  | some g =>
    obtain ⟨cs, hc⟩ := hi.block hv
    rw [hv] at hg
    exact h.beside hc (by decide) (Frm.of_grown (F := (· = g)) hg rfl) (hi.low g hv)
theorem u8_wf {n : Int} (h : (Lit.int .u8 n).wf = true) : 0 ≤ n ∧ n ≤ 255 := by have := bounds_u8 h; omega
/-- Whom a deed is of. -/
def idOf : List Value → Int
  | [_, .int _ x] => x
  | _ => 0
theorem deed_at {w : World} {a : Option Addr} {len cap : Nat} {D : List (List Value)} (h : SliceIn w [.int .i64, .int .i64] 16 a len cap D) {i : Nat} (hi : i < len) :
    ∃ blk off kd x, a = some ⟨blk, off, none⟩ ∧ w.cell? ⟨blk, off + i * 2, none⟩ = some (.int .i64 kd) ∧ w.cell? ⟨blk, off + i * 2 + 1, none⟩ = some (.int .i64 x) ∧ wf64 x ∧ (D.map idOf)[i]? = some x := by
  obtain ⟨h1, h2, _, _, _, h6⟩ := h
  rcases h6 with h6 | ⟨blk, off, ha, _, hc⟩
  · omega
  · have hr : D[i]? = some (D[i]'(by omega)) := List.getElem?_eq_getElem (by omega)
    have hf := h2 _ (List.getElem_mem (by omega) : D[i]'(by omega) ∈ D)
    generalize D[i]'(by omega) = row at hr hf
    obtain _ | ⟨v0, row⟩ := row
    · exact hf.elim
    obtain ⟨⟨kd, rfl, _⟩, hf⟩ := hf
    obtain _ | ⟨v1, row⟩ := row
    · exact hf.elim
    obtain ⟨⟨x, rfl, hx⟩, hf⟩ := hf
    obtain _ | ⟨v2, row⟩ := row
    · refine ⟨blk, off, kd, x, ha, ?_, ?_, bounds_i64 hx, by rw [List.getElem?_map, hr]; rfl⟩
      · simpa [Nat.add_assoc] using hc i 0 _ _ hr rfl
      · simpa [Nat.add_assoc] using hc i 1 _ _ hr rfl
    · exact hf.elim
theorem mem_ids {T : List Int} {i : Nat} {x : Int} (h : T[i]? = some x) (hi : i < 100) : x ∈ T.take 100 := List.mem_of_getElem? (i := i) (by rw [List.getElem?_take, if_pos hi]; exact h)

set_option maxRecDepth 100000 in
set_option maxHeartbeats 1000000 in
theorem ran_any (w0 : World) (c : Cnf) (n k : Nat) (a : Option Addr) (l cp : Nat) (D : List (List Value)) (w : World) (hc : c.Bulk n k) (hs : SliceIn w0 [.int .i64, .int .i64] 16 a l cp D) (hb : Below w0.heap.size w0 w) :
    Calls Try.prog 19 #[.agg (aggV c.vals), .slice a l cp] w fun r w' => ∃ b, r = .returned (.pointer (some ⟨b, 0, none⟩)) ∧ ∃ (f : Fb) (S : BU), S.Of n k ((D.map idOf).take 100) ∧ OwU w0 w' b f S ∧ Below w.heap.size w w' := by
  obtain ⟨N, hN⟩ : ∃ N, (if 100 < l then 100 else l) = N := ⟨_, rfl⟩
  have hN' : N ≤ l ∧ N ≤ 100 ∧ (N < 100 → N = l) := by rw [← hN]; split <;> omega
  have hml := hs.2.2.2.2.1
  have hlk := hs.2.2.1
  unfold maxLen at hml
  obtain ⟨g, hg⟩ : ∃ g, w.heap.size = g := ⟨_, rfl⟩
  obtain ⟨fs, hu⟩ := undC
  have HU := Lib.hid hu
  obtain ⟨fs', hu'⟩ := undR
  have HU' := Lib.hid hu'
  have HS := Lib.hid hs
  have HB := Lib.hid hb
  have HC := Lib.hid hc
  have hsw : w0.heap.size ≤ w.heap.size := hb.size
  have HSW := Lib.hid hsw
  clear hs hb hc hN hu hu' hsw
  go_enter Try.func19, Try.ntmps19
  go_wp2_with (first
    | (refine wpList_box_agg rfl 24 _ rfl g hg c.vals rfl ?_; intro w1 h1 l1 t1;
       have L1 : Hid (Below w.heap.size w w1) := Lib.hid (by rw [hg]; exact l1);
       clear l1)
    | (refine wpList_load_agg rfl 24 _ rfl g rfl c.vals ?hy _ HU.out rfl (sizeC _) ?_; (case hy => exact h1))
    | (refine wpList_load_agg rfl 24 _ rfl g rfl c.vals ?hy _ HU.out rfl (sizeC _) ?_; (case hy => exact h2))
    | (go_at_call 10; refine (ou_new w w1 c n k HC.out L1.out).mono ?_; rintro r w2 ⟨b, rfl, f, o2, b2⟩;
       have h2 := kb_below h1 b2; have O2 := Lib.hid o2; clear o2 b2 h1)
    | (go_at_call 11; refine (rnew_bulk c n k w2 HC.out).mono ?_; rintro r w3 ⟨rfl, b3⟩;
       have O3 := Lib.hid (O2.out.below b3); obtain ⟨xb, hxb⟩ : ∃ xb, w3.heap.size = xb := ⟨_, rfl⟩; clear b3 h2 O2)
    | (refine wpList_alloc_agg rfl 31 rfl xb hxb RK.zero.vals (allocR _) ?_; intro w4 h4 l4 t4;
       have O4 := Lib.hid (O3.out.below (by rw [hxb]; exact l4)); have H4 := Lib.hid h4; clear l4 h4)
    | (refine wpList_store_agg rfl 31 _ _ rfl xb RK.zero.vals (RK.ofC c).vals rfl rfl ?hz rfl (sizeR _) (RK.ones_vals _) ?_; (case hz => exact H4.out); intro w5 h5 f5 t5;
       have X5 := Lib.hid h5;
       have hwx : w.heap.size ≤ xb := (by have := O3.out.low.size; omega);
       have O5 := Lib.hid (O4.out.beside H4.out (by decide) f5 hwx);
       clear h5 f5 O3 O4 H4))
  clear t1 hxb t4 t5 L1 HU
  go_loopg [8] N (fun q v8 wr => ∃ (i : Nat) (S : BU) (X : RK), i + q = N ∧ v8 = .int .i64 i ∧ S.Of n k ((D.map idOf).take 100) ∧ OwU w wr b f S ∧ X.Is wr w.heap.size S ∧ wr.heap[xb]? = some (vobj 31 X.vals))
  case atStart => exact ⟨0, BU.none_ n k, RK.ofC c, by omega, rfl, BU.Of.none_ n k _, O5.out, RK.ofC_is HC.out _ _, X5.out⟩
  case round =>
    obtain ⟨i, S, X, hq, rfl, hof, how, hi, hx⟩ := hrel
    have G := Lib.hid hq
    have OF := Lib.hid hof
    have OW := Lib.hid how
    have IX := Lib.hid hi
    have HX := Lib.hid hx
    clear hq hof how hx hi X5 O5
    by_cases hin : i < N
    · have hi1 : (i : Int) < l := by omega
      have hi2 : (i : Int) < 100 := by omega
      obtain ⟨blk, off, kd, z, rfl, q0, q1, hz, hid⟩ := deed_at HS.out (i := i) (by omega)
      have hzT := mem_ids hid (by omega)
      have HR : Hid (∀ v, v.heap[xb]? = some (vobj 31 X.vals) → Below w.heap.size w v → v.cell? ⟨xb, 0, none⟩ = some (.int .i64 X.most) ∧ v.cell? ⟨xb, 1, none⟩ = some (.int .i64 X.que) ∧ v.cell? ⟨xb, 2, none⟩ = some (.slice X.A X.n X.c) ∧ v.cell? ⟨xb, 3, none⟩ = some (.slice X.B X.m X.d) ∧
          v.cell? ⟨blk, off + i * 2, none⟩ = some (.int .i64 kd) ∧ v.cell? ⟨blk, off + i * 2 + 1, none⟩ = some (.int .i64 z)) :=
        Lib.hid (fun v hv hb => ⟨vobj_cell hv rfl, vobj_cell hv rfl, vobj_cell hv rfl, vobj_cell hv rfl, cell_later (HB.out.trans (hb.mono HSW.out)) q0, cell_later (HB.out.trans (hb.mono HSW.out)) q1⟩)
      have HZ := Lib.hid hz
      have HT := Lib.hid hzT
      have hwl := OW.out.low.size
      have hxl := heap_lt HX.out
      have hxn : xb ≠ wr.heap.size := by omega
      clear q0 q1 hz hzT hid
      go_wp2
      go_cut [9, 10] (fun v9 v10 wq => ∃ (yb : Nat) (Y : RK), v9 = .pointer (some ⟨yb, 0, none⟩) ∧ v10 = .bool true ∧ w.heap.size ≤ yb ∧ OwU w wq b f (S.deed kd z) ∧ Y.Is wq w.heap.size (S.deed kd z) ∧ wq.heap[xb]? = some (vobj 31 X.vals) ∧ wq.heap[yb]? = some (vobj 31 Y.vals))
      case first =>
        go_region_held3 (fun v => v.cell? ⟨xb, 0, none⟩ = some (.int .i64 X.most) ∧ v.cell? ⟨xb, 1, none⟩ = some (.int .i64 X.que) ∧ v.cell? ⟨xb, 2, none⟩ = some (.slice X.A X.n X.c) ∧ v.cell? ⟨xb, 3, none⟩ = some (.slice X.B X.m X.d) ∧
          v.cell? ⟨blk, off + i * 2, none⟩ = some (.int .i64 kd) ∧ v.cell? ⟨blk, off + i * 2 + 1, none⟩ = some (.int .i64 z))
          (first
            | with_reducible exact HR.out _ x5 o5.low
            | with_reducible exact HR.out _ (kb_alloc x5 _) (o5.below (below_alloc _ _)).low
            | (have hy5 := y5; exact HR.out _ (((sets_frm w5 wr.heap.size _ _ _ _).block xb (heap_lt x5) hxn).trans x5) (o5.beside y5 (by decide) (sets_frm w5 wr.heap.size _ _ _ _) hwl).low)
            | exact HR.out (World.drew _) HX.out (OW.out.ali (drew_ali _)).low
            | exact HR.out (World.drew _) (kb_alloc HX.out _) ((OW.out.below (below_alloc _ _)).ali (drew_ali _)).low)
          (first
            | (go_at_call 12; refine (do_raw w b f S X kd z _ (OW.out.ali (drew_ali _)) (IX.out.ali (drew_ali _)) HZ.out).mono ?_; rintro r w5 ⟨Y, rfl, i5, o5, f5⟩; have I5 := Lib.hid i5; have x5 : w5.heap[xb]? = some (vobj 31 X.vals) := (OW.out.ali (drew_ali _)).bul.kept f5 (j := xb) HX.out (by decide))
            | (go_at_call 12; refine (do_raw w b f S X kd z _ ((OW.out.below (below_alloc _ _)).ali (drew_ali _)) ((IX.out.below (below_alloc _ _)).ali (drew_ali _)) HZ.out).mono ?_; rintro r w5 ⟨Y, rfl, i5, o5, f5⟩; have I5 := Lib.hid i5; have x5 : w5.heap[xb]? = some (vobj 31 X.vals) := ((OW.out.below (below_alloc _ _)).ali (drew_ali _)).bul.kept f5 (j := xb) (kb_alloc HX.out _) (by decide); have y5 : w5.heap[wr.heap.size]? = some (vobj 31 RK.zero.vals) := ((OW.out.below (below_alloc _ _)).ali (drew_ali _)).bul.kept f5 (j := wr.heap.size) (heap_alloc_at wr _) (by decide); obtain ⟨ya, yc, yd, yg⟩ := RK.cells_vals y5; have yf0 := vobj_frozen y5 0; have yf1 := vobj_frozen y5 1; have yf2 := vobj_frozen y5 2; have yf3 := vobj_frozen y5 3))
        all_goals (go_wp2; go_meet)
        · exact ⟨w5.heap.size, Y, rfl, rfl, o5.low.size, o5.below (below_alloc _ _), I5.out.below (below_alloc _ _), kb_alloc x5 _, heap_alloc_at _ _⟩
        · exact ⟨wr.heap.size, Y, rfl, rfl, hwl, o5.beside y5 (by decide) (sets_frm w5 wr.heap.size _ _ _ _) hwl, I5.out.beside y5 (by decide) (sets_frm w5 wr.heap.size _ _ _ _), ((sets_frm w5 wr.heap.size _ _ _ _).block xb (heap_lt x5) hxn).trans x5, sets_rk y5 Y⟩
      case rest =>
        obtain ⟨yb, Y, rfl, rfl, hyb, o6, i6, x6, y6⟩ := hcut
        have OFY : Hid ((S.deed kd z).Of n k ((D.map idOf).take 100)) := Lib.hid (OF.out.deed kd HT.out)
        have O6 := Lib.hid o6
        have I6 := Lib.hid i6
        have X6 := Lib.hid x6
        have Y6 := Lib.hid y6
        clear o6 i6 x6 y6 HR
        go_wp2_with (first
          | (refine wpList_load_agg rfl 31 _ rfl yb rfl Y.vals ?hy _ HU'.out rfl (sizeR _) ?_; (case hy => exact Y6.out))
          | (refine wpList_store_agg rfl 31 _ _ rfl xb X.vals Y.vals rfl rfl ?hz rfl (sizeR _) (RK.ones_vals _) ?_; (case hz => exact X6.out); intro w7 h7 f7 t7; have X7 := Lib.hid h7; have O7 := Lib.hid (O6.out.beside X6.out (by decide) f7 hwx); have I7 := Lib.hid (I6.out.beside X6.out (by decide) f7); clear h7 f7 t7))
        go_roundg (N - (i + 1))
        case measure => have := G.out; omega
        case rel => exact ⟨i + 1, S.deed kd z, Y, by omega, by simp, OFY.out, O7.out, I7.out, X7.out⟩
    · have hfin : OwU w0 wr b f S ∧ Below w.heap.size w wr := by
        refine ⟨⟨OW.out.bul, HB.out.trans (OW.out.low.mono HSW.out), ?_, ?_⟩, OW.out.low⟩
        · have := OW.out.atm; have := HSW.out; omega
        · have := OW.out.atr; have := HSW.out; omega
      have FIN := Lib.hid hfin
      clear hfin
      by_cases hl : i < l
      · have hi1 : (i : Int) < l := by omega
        have hi2 : ¬ (i : Int) < 100 := by omega
        go_wp2
        go_ret
        exact ⟨b, rfl, f, S, OF.out, FIN.out.1, by have := FIN.out.2; first | exact this | (rw [hg] at this; exact this)⟩
      · have hi1 : ¬ (i : Int) < l := by omega
        go_wp2
        go_ret
        exact ⟨b, rfl, f, S, OF.out, FIN.out.1, by have := FIN.out.2; first | exact this | (rw [hg] at this; exact this)⟩
end Go.Proofs.Ytnmcnniilihecaa
