/- Layer 9: many deeds of a breaker and the document's beside each other (ran). -/
import Derived.Test.YtnggcegoomhneaaLaw09
import Derived.Deep.LoopGhost
import Derived.Deep.RegionHeld3
import Derived.Deep.DeepCutAuto
namespace Go.Proofs.Ytnggcegoomhneaa
set_option linter.unusedVariables false
open Go.ChangeShapes Go.WideShapes Go.ChangeAt Go.RowKit

/-- What a breaker of a configuration is, whatever was done. -/
structure BK.Of (c : Cnf) (x : BK) : Prop where
  sleep : x.sleep = c.sleep
  force : x.force = c.force
  state : x.state = 1 ∨ x.state = 2 ∨ x.state = 3
  forced : c.force ≠ 0 → x.state = 1 ∧ x.since = 0
theorem BK.Of.new (c : Cnf) : BK.Of c (BK.ofC c) := ⟨rfl, rfl, .inl rfl, fun _ => ⟨rfl, rfl⟩⟩
theorem BK.Of.ask {c : Cnf} {x : BK} (h : x.Of c) (now : Int) : (x.ask now).Of c := by
  unfold BK.ask
  split
  · rename_i hw
    refine ⟨h.sleep, h.force, .inr (.inr rfl), fun hf => ?_⟩
    have := (h.forced hf).1
    have := hw.2.2.1
    omega
  · exact h
theorem BK.Of.trip {c : Cnf} {x : BK} (h : x.Of c) (now : Int) : (x.trip now).Of c := by
  unfold BK.trip
  split
  · rename_i hw
    refine ⟨h.sleep, h.force, .inr (.inl rfl), fun hf => ?_⟩
    have := h.force
    have := hw.2
    omega
  · exact h
theorem BK.Of.done {c : Cnf} {x : BK} (h : x.Of c) (now : Int) (ok : Bool) : (x.done now ok).Of c := by
  unfold BK.done
  split
  · rename_i hw
    have hf : ¬ c.force ≠ 0 := fun hf => by have := (h.forced hf).1; omega
    split
    · exact ⟨h.sleep, h.force, .inl rfl, fun k => absurd k hf⟩
    · exact ⟨h.sleep, h.force, .inr (.inl rfl), fun k => absurd k hf⟩
  · exact h
theorem BK.Of.back {c : Cnf} {x : BK} (h : x.Of c) : x.back.Of c := by
  unfold BK.back
  split
  · rename_i hw
    have hf : ¬ c.force ≠ 0 := fun hf => by have := (h.forced hf).1; omega
    exact ⟨h.sleep, h.force, .inr (.inl rfl), fun k => absurd k hf⟩
  · exact h
theorem BK.Of.deed {c : Cnf} {x : BK} (h : x.Of c) (kd now : Int) (ok : Bool) : (x.deed kd now ok).Of c := by
  unfold BK.deed
  split
  · exact h.ask now
  · split
    · exact h.trip now
    · split
      · exact h.done now ok
      · exact h.back

/-- A deed's cells. -/
theorem deed_at {w : World} {a : Option Addr} {len cap : Nat} {D : List (List Value)} (h : SliceIn w [.int .i64, .int .u64, .bool] 24 a len cap D) {i : Nat} (hi : i < len) :
    ∃ blk off kd T ok, a = some ⟨blk, off, none⟩ ∧ w.cell? ⟨blk, off + i * 3, none⟩ = some (.int .i64 kd) ∧ w.cell? ⟨blk, off + i * 3 + 1, none⟩ = some (.int .u64 T) ∧ w.cell? ⟨blk, off + i * 3 + 2, none⟩ = some (.bool ok) ∧ u64B T := by
  obtain ⟨h1, h2, _, _, _, h6⟩ := h
  rcases h6 with h6 | ⟨blk, off, ha, _, hc⟩
  · omega
  · have hr : D[i]? = some (D[i]'(by omega)) := List.getElem?_eq_getElem (by omega)
    have hf := h2 _ (List.getElem_mem (by omega) : D[i]'(by omega) ∈ D)
    generalize D[i]'(by omega) = row at hr hf
    obtain _ | ⟨v0, row⟩ := row
    · exact hf.elim
    obtain ⟨⟨kd, rfl, _⟩, hf⟩ := hf
    obtain _ | ⟨v1, row⟩ := row
    · exact hf.elim
    obtain ⟨⟨T, rfl, hT⟩, hf⟩ := hf
    obtain _ | ⟨v2, row⟩ := row
    · exact hf.elim
    obtain ⟨⟨ok, rfl⟩, hf⟩ := hf
    refine ⟨blk, off, kd, T, ok, ha, ?_, ?_, ?_, wf_u64 hT⟩
    · simpa [Nat.add_assoc] using hc i 0 _ _ hr rfl
    · simpa [Nat.add_assoc] using hc i 1 _ _ hr rfl
    · simpa [Nat.add_assoc] using hc i 2 _ _ hr rfl

/-- do, its struct's cells written out. -/
theorem do_raw (w0 : World) (b : Nat) (kd now T : Int) (ok : Bool) (x : BK) (w : World) (h : OwB w0 w b x) (hn : u64B now) :
    Calls Try.prog 13 #[.pointer (some ⟨b, 0, none⟩), .agg #[.int .i64 x.state, .int .u64 x.since, .int .u64 x.sleep, .int .i64 x.force], .int .u64 now, .agg #[.int .i64 kd, .int .u64 T, .bool ok]] w fun r w' => ∃ y : BK, r = .returned (.tuple #[.agg #[.int .i64 y.state, .int .u64 y.since, .int .u64 y.sleep, .int .i64 y.force], .bool true]) ∧ y = x.deed kd now ok ∧ OwB w0 w' b y ∧ Frm (· = b) w w' := by
  refine (do_any w0 b kd now T ok x w h hn).mono ?_
  rintro r w' ⟨rfl, h1, h2⟩
  exact ⟨_, rfl, rfl, h1, h2⟩

/-- The cells that a round reads: the document's breaker, the deed. -/
def Reads (xb blk p : Nat) (x : BK) (kd T : Int) (ok : Bool) (v : World) : Prop :=
  v.cell? ⟨xb, 0, none⟩ = some (.int .i64 x.state) ∧ v.cell? ⟨xb, 1, none⟩ = some (.int .u64 x.since) ∧ v.cell? ⟨xb, 2, none⟩ = some (.int .u64 x.sleep) ∧ v.cell? ⟨xb, 3, none⟩ = some (.int .i64 x.force) ∧
  v.cell? ⟨blk, p, none⟩ = some (.int .i64 kd) ∧ v.cell? ⟨blk, p + 1, none⟩ = some (.int .u64 T) ∧ v.cell? ⟨blk, p + 2, none⟩ = some (.bool ok)

theorem sets_vals {w : World} {g : Nat} {ty : TypeId} {x : BK} (h : w.heap[g]? = some (vobj ty x.vals)) (y : BK) :
    ((((w.setCell ⟨g, 0, none⟩ (.int .i64 y.state)).setCell ⟨g, 1, none⟩ (.int .u64 y.since)).setCell ⟨g, 2, none⟩ (.int .u64 y.sleep)).setCell ⟨g, 3, none⟩ (.int .i64 y.force)).heap[g]? = some (vobj ty y.vals) :=
  vobj_set (vobj_set (vobj_set (vobj_set h 0 _) 1 _) 2 _) 3 _
theorem sets_frm (w : World) (g : Nat) (u0 u1 u2 u3 : Value) :
    Frm (· = g) w ((((w.setCell ⟨g, 0, none⟩ u0).setCell ⟨g, 1, none⟩ u1).setCell ⟨g, 2, none⟩ u2).setCell ⟨g, 3, none⟩ u3) := ((((Frm.refl (· = g) w).on 0 u0).on 1 u1).on 2 u2).on 3 u3

set_option maxRecDepth 100000 in
set_option maxHeartbeats 1000000 in
theorem ran_any (w0 : World) (c : Cnf) (a : Option Addr) (l k : Nat) (D : List (List Value)) (w : World) (hc : c.Fits) (hs : SliceIn w0 [.int .i64, .int .u64, .bool] 24 a l k D) (hb : Below w0.heap.size w0 w) :
    Calls Try.prog 16 #[.agg (aggV c.vals), .slice a l k] w fun r w' => ∃ b now, r = .returned (.tuple #[.pointer (some ⟨b, 0, none⟩), .int .u64 now]) ∧ u64B now ∧ ∃ x : BK, x.Of c ∧ OwB w0 w' b x := by
  obtain ⟨n, hn⟩ : ∃ n, (if 100 < l then 100 else l) = n := ⟨_, rfl⟩
  have hn' : n ≤ l ∧ n ≤ 100 ∧ (n < 100 → n = l) := by rw [← hn]; split <;> omega
  have hml := hs.2.2.2.2.1
  have hlk := hs.2.2.1
  unfold maxLen at hml
  obtain ⟨g, hg⟩ : ∃ g, w.heap.size = g := ⟨_, rfl⟩
  obtain ⟨fs, hu⟩ := undC
  have HU := Lib.hid hu
  obtain ⟨fs', hu'⟩ := undB
  have HU' := Lib.hid hu'
  have HS := Lib.hid hs
  have HB := Lib.hid hb
  have HC := Lib.hid hc
  clear hs hb hc hn hu hu'
  go_enter Try.func16, Try.ntmps16
  go_wp2_with (first
    | (refine wpList_box_agg rfl 24 _ rfl g hg c.vals rfl ?_; intro w1 h1 l1 t1;
       have L1 : Hid (Below w0.heap.size w0 w1) := Lib.hid (by have := HB.out.size; exact HB.out.trans (l1.mono (by omega)));
       clear l1)
    | (refine wpList_load_agg rfl 24 _ rfl g rfl c.vals ?hy _ HU.out rfl (sizeC _) ?_; (case hy => exact h1))
    | (refine wpList_load_agg rfl 24 _ rfl g rfl c.vals ?hy _ HU.out rfl (sizeC _) ?_; (case hy => exact h2))
    | (go_at_call 10; refine (ob_new w0 w1 c HC.out L1.out).mono ?_; rintro r w2 ⟨b, rfl, hs2, o2, b2⟩;
       have h2 := kb_below h1 b2; have O2 := Lib.hid o2; clear o2 b2 h1)
    | (go_at_call 11; refine (rnew_any c w2).mono ?_; rintro r w3 ⟨rfl, b3⟩;
       have O3 := Lib.hid (O2.out.below b3); obtain ⟨xb, hxb⟩ : ∃ xb, w3.heap.size = xb := ⟨_, rfl⟩; clear b3 h2 O2)
    | (refine wpList_alloc_agg rfl 30 rfl xb hxb BK.zero.vals (allocB _) ?_; intro w4 h4 l4 t4;
       have O4 := Lib.hid (O3.out.below (by rw [hxb]; exact l4)); clear l4)
    | (refine wpList_store_agg rfl 30 _ _ rfl xb BK.zero.vals (BK.ofC c).vals rfl rfl ?hz rfl (sizeB _) (BK.ones_vals _) ?_; (case hz => exact h4); intro w5 h5 f5 t5;
       have X5 := Lib.hid h5;
       have hwx : w0.heap.size ≤ xb := (by have := O3.out.low.size; omega);
       have hbx : b ≠ xb := (by have := O3.out.brk.lt; omega);
       have O5 := Lib.hid (O4.out.beside f5 hwx hbx);
       clear h4 h5 f5 O3 O4))
  clear t1 hs2 hxb t4 t5 L1 HB HC HU
  go_loopg [8, 9] n (fun q v8 v9 wr => ∃ (i : Nat) (N : Int) (x : BK), i + q = n ∧ v9 = .int .i64 i ∧ v8 = .int .u64 N ∧ u64B N ∧ x.Of c ∧ OwB w0 wr b x ∧ wr.heap[xb]? = some (vobj 30 x.vals))
  case atStart => exact ⟨0, 0, BK.ofC c, by omega, rfl, rfl, ⟨by omega, by omega⟩, BK.Of.new c, O5.out, X5.out⟩
  case round =>
    obtain ⟨i, N, x, hq, rfl, rfl, hN, hof, how, hx⟩ := hrel
    have G := Lib.hid hq
    have HN := Lib.hid hN
    have OF := Lib.hid hof
    have OW := Lib.hid how
    have HX := Lib.hid hx
    clear hq hN hof how hx X5 O5
    by_cases hin : i < n
    · have hi1 : (i : Int) < l := by omega
      have hi2 : (i : Int) < 100 := by omega
      obtain ⟨blk, off, kd, T, ok, rfl, q0, q1, q2, hT⟩ := deed_at HS.out (i := i) (by omega)
      have HR : Hid (∀ v, v.heap[xb]? = some (vobj 30 x.vals) → Below w0.heap.size w0 v → v.cell? ⟨xb, 0, none⟩ = some (.int .i64 x.state) ∧ v.cell? ⟨xb, 1, none⟩ = some (.int .u64 x.since) ∧ v.cell? ⟨xb, 2, none⟩ = some (.int .u64 x.sleep) ∧ v.cell? ⟨xb, 3, none⟩ = some (.int .i64 x.force) ∧
          v.cell? ⟨blk, off + i * 3, none⟩ = some (.int .i64 kd) ∧ v.cell? ⟨blk, off + i * 3 + 1, none⟩ = some (.int .u64 T) ∧ v.cell? ⟨blk, off + i * 3 + 2, none⟩ = some (.bool ok)) :=
        Lib.hid (fun v hv hb => ⟨vobj_cell hv rfl, vobj_cell hv rfl, vobj_cell hv rfl, vobj_cell hv rfl, cell_later hb q0, cell_later hb q1, cell_later hb q2⟩)
      have p1 := cell_later OW.out.low q1
      have hN' : u64B (addS N T) := addS_bd HN.out.1 hT.1
      have HA := Lib.hid (radd_any N T wr HN.out.1 hT.1 HN.out.2 hT.2)
      generalize addS N T = N' at *
      have HN' := Lib.hid hN'
      have hwl := OW.out.low.size
      have hbl := OW.out.brk.lt
      have hxl := heap_lt HX.out
      have hxn : xb ≠ wr.heap.size := by omega
      have hbn : b ≠ wr.heap.size := by omega
      clear q0 q1 q2 hT hN'
      go_wp2_with (go_at_call 12; refine HA.out.mono ?_; rintro r wx ⟨rfl, rfl⟩)
      clear p1 HA
      go_cut [10, 11] (fun v10 v11 wq => ∃ (yb : Nat) (y : BK), v10 = .pointer (some ⟨yb, 0, none⟩) ∧ v11 = .bool true ∧ w0.heap.size ≤ yb ∧ y = x.deed kd N' ok ∧ OwB w0 wq b y ∧ wq.heap[xb]? = some (vobj 30 x.vals) ∧ wq.heap[yb]? = some (vobj 30 y.vals))
      case first =>
        go_region_held3 (fun v => v.cell? ⟨xb, 0, none⟩ = some (.int .i64 x.state) ∧ v.cell? ⟨xb, 1, none⟩ = some (.int .u64 x.since) ∧ v.cell? ⟨xb, 2, none⟩ = some (.int .u64 x.sleep) ∧ v.cell? ⟨xb, 3, none⟩ = some (.int .i64 x.force) ∧
          v.cell? ⟨blk, off + i * 3, none⟩ = some (.int .i64 kd) ∧ v.cell? ⟨blk, off + i * 3 + 1, none⟩ = some (.int .u64 T) ∧ v.cell? ⟨blk, off + i * 3 + 2, none⟩ = some (.bool ok))
          (first
            | with_reducible exact HR.out _ x5 o5.low
            | with_reducible exact HR.out _ (kb_alloc x5 _) (o5.below (below_alloc _ _)).low
            | (have hy5 := y5; exact HR.out _ (((sets_frm w5 wr.heap.size _ _ _ _).block xb (heap_lt x5) hxn).trans x5) (o5.beside (sets_frm w5 wr.heap.size _ _ _ _) hwl hbn).low)
            | exact HR.out (World.drew _) HX.out (OW.out.ali (drew_ali _)).low
            | exact HR.out (World.drew _) (kb_alloc HX.out _) ((OW.out.below (below_alloc _ _)).ali (drew_ali _)).low)
          (first
            | (go_at_call 13; refine (do_raw w0 b kd N' T ok x _ (OW.out.ali (drew_ali _)) HN'.out).mono ?_; rintro r w5 ⟨y, rfl, ye, o5, f5⟩; have YE := Lib.hid ye; clear ye; have x5 : w5.heap[xb]? = some (vobj 30 x.vals) := (OW.out.ali (drew_ali _)).brk.kept f5 (j := xb) HX.out (by decide))
            | (go_at_call 13; refine (do_raw w0 b kd N' T ok x _ ((OW.out.below (below_alloc _ _)).ali (drew_ali _)) HN'.out).mono ?_; rintro r w5 ⟨y, rfl, ye, o5, f5⟩; have YE := Lib.hid ye; clear ye; have x5 : w5.heap[xb]? = some (vobj 30 x.vals) := ((OW.out.below (below_alloc _ _)).ali (drew_ali _)).brk.kept f5 (j := xb) (kb_alloc HX.out _) (by decide); have y5 : w5.heap[wr.heap.size]? = some (vobj 30 BK.zero.vals) := ((OW.out.below (below_alloc _ _)).ali (drew_ali _)).brk.kept f5 (j := wr.heap.size) (heap_alloc_at wr _) (by decide); obtain ⟨ya, yc, yd, yg⟩ := BK.cells_vals y5; have yf0 := vobj_frozen y5 0; have yf1 := vobj_frozen y5 1; have yf2 := vobj_frozen y5 2; have yf3 := vobj_frozen y5 3))
        all_goals (go_wp2; go_meet)
        · exact ⟨w5.heap.size, y, rfl, rfl, o5.low.size, YE.out, o5.below (below_alloc _ _), kb_alloc x5 _, heap_alloc_at _ _⟩
        · exact ⟨wr.heap.size, y, rfl, rfl, hwl, YE.out, o5.beside (sets_frm w5 wr.heap.size _ _ _ _) hwl hbn, ((sets_frm w5 wr.heap.size _ _ _ _).block xb (heap_lt x5) hxn).trans x5, sets_vals y5 y⟩
      case rest =>
        obtain ⟨yb, y, rfl, rfl, hyb, hy, o6, x6, y6⟩ := hcut
        have OFY : Hid (y.Of c) := Lib.hid (by rw [hy]; exact OF.out.deed kd N' ok)
        have O6 := Lib.hid o6
        have X6 := Lib.hid x6
        have Y6 := Lib.hid y6
        clear hy o6 x6 y6 HR
        go_wp2_with (first
          | (refine wpList_load_agg rfl 30 _ rfl yb rfl y.vals ?hy _ HU'.out rfl (sizeB _) ?_; (case hy => exact Y6.out))
          | (refine wpList_store_agg rfl 30 _ _ rfl xb x.vals y.vals rfl rfl ?hz rfl (sizeB _) (BK.ones_vals _) ?_; (case hz => exact X6.out); intro w7 h7 f7 t7; have X7 := Lib.hid h7; have O7 := Lib.hid (O6.out.beside f7 hwx hbx); clear h7 f7 t7))
        go_roundg (n - (i + 1))
        case measure => have := G.out; omega
        case rel => exact ⟨i + 1, N', y, by omega, by simp, rfl, HN'.out, OFY.out, O7.out, X7.out⟩
    · by_cases hl : i < l
      · have hi1 : (i : Int) < l := by omega
        have hi2 : ¬ (i : Int) < 100 := by omega
        go_wp2
        go_ret2
        exact ⟨b, N, rfl, HN.out, x, OF.out, OW.out⟩
      · have hi1 : ¬ (i : Int) < l := by omega
        go_wp2
        go_ret2
        exact ⟨b, N, rfl, HN.out, x, OF.out, OW.out⟩
end Go.Proofs.Ytnggcegoomhneaa
