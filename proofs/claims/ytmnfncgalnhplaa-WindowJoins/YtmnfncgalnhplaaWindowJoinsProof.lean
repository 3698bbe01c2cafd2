/- What is proved: WindowJoins of porpoiselaw06 answers true for every input, and leaves its arguments as they were; conditions: those of the given row alone. -/
import Derived.Test.YtmnfncgalnhplaaKit
import Derived.Test.YtmnfncgalnhplaaLaw06
namespace Go.Proofs.Ytmnfncgalnhplaa.windowJoins
open Go.ChangeShapes Go.WideShapes Go.ChangeAt Go.RowKit Go.Deep
open Go.ChangeMaps (open_string shut_string)
set_option linter.unusedVariables false

theorem own : ownKnob Try.prog.godebug = none := by kernel_rfl
theorem laidOut : laidOutB Try.prog = true := by kernel_rfl

/-- What Add leaves, whatever the kind. -/
def addk (F : Cnt) (t : Nat) (k : Int) (n : Int) : Cnt := if 0 ≤ k ∧ k < 5 then upd F t k.toNat (addS (F t k.toNat) n) else F
theorem ow_addk (w0 : World) (b B W t now : Nat) (k n : Int) (F : Cnt) (w : World) (t' : Nat) (h : OwW w0 w b B W t F) (hn : now ≤ 18446744073709551615) (h0 : 0 ≤ n) (h1 : n ≤ 18446744073709551615) (ht : max (now / W) t = t') :
    Calls Try.prog 10 #[.pointer (some ⟨b, 0, none⟩), .int .u64 now, .int .i64 k, .int .u64 n] w fun r w' => ∃ ok, r = .returned (.bool ok) ∧ Frm (· = b) w w' ∧ ∃ tn, max (now / W) tn = t' ∧ OwW w0 w' b B W tn (addk F t' k n) := by
  by_cases hk : 0 ≤ k ∧ k < 5
  · have e : addk F t' k n = upd F t' k.toNat (addS (F t' k.toNat) n) := if_pos hk
    rw [e]
    obtain ⟨i, rfl⟩ : ∃ i : Nat, k = i := ⟨k.toNat, by omega⟩
    rw [Int.toNat_natCast]
    exact (ow_add w0 b B W t now i n F w t' _ h hn (by omega) h0 h1 ht rfl).mono fun r w' ⟨hr, hf, ho⟩ => ⟨_, hr, hf, t', by omega, ho⟩
  · have e : addk F t' k n = F := if_neg hk
    rw [e]
    exact (add_bad b now k n w (by omega)).mono fun r w' ⟨hr, hw⟩ => by subst hw; exact ⟨_, hr, Frm.refl _ _, t, ht, h⟩
theorem addk_join {F G H : Cnt} {t : Nat} {k n m : Int} (hs : ∀ q j, F q j = G q j + H q j) (hl : ∀ q j, F q j ≤ m) (hG : ∀ q j, 0 ≤ G q j) (hH : ∀ q j, 0 ≤ H q j) (hm : m ≤ 1000000) (h0 : 0 ≤ n) (h1 : n ≤ 999) :
    (∀ q j, addk F t k n q j = addk G t k n q j + H q j) ∧ ∀ q j, addk F t k n q j ≤ m + 999 := by
  by_cases hk : 0 ≤ k ∧ k < 5
  · have e : ∀ X : Cnt, addk X t k n = upd X t k.toNat (addS (X t k.toNat) n) := fun X => if_pos hk
    rw [e, e]
    have b1 := hs t k.toNat
    have b2 := hl t k.toNat
    have b3 := hG t k.toNat
    have b4 := hH t k.toNat
    have e1 : addS (F t k.toNat) n = F t k.toNat + n := by unfold addS; rw [if_pos (by omega)]
    have e2 : addS (G t k.toNat) n = G t k.toNat + n := by unfold addS; rw [if_pos (by omega)]
    rw [e1, e2]
    refine ⟨fun q j => ?_, fun q j => ?_⟩
    · by_cases hq : q = t ∧ j = k.toNat
      · obtain ⟨rfl, rfl⟩ := hq
        rw [upd_same, upd_same]; omega
      · rw [upd_other hq, upd_other hq]; exact hs q j
    · by_cases hq : q = t ∧ j = k.toNat
      · obtain ⟨rfl, rfl⟩ := hq
        rw [upd_same]; omega
      · rw [upd_other hq]; have := hl q j; omega
  · have e : ∀ X : Cnt, addk X t k n = X := fun X => if_neg hk
    rw [e, e]
    exact ⟨hs, fun q j => by have := hl q j; omega⟩
/-- Three windows of four buckets, beside each other. -/
structure Tri (w0 w : World) (a b c ta tb tc : Nat) (F G H : Cnt) : Prop where
  oa : OwW w0 w a 4 10 ta F
  ob : OwW w0 w b 4 10 tb G
  oc : OwW w0 w c 4 10 tc H
  ab : a ≠ b
  ac : a ≠ c
  bc : b ≠ c
section
variable {w0 w w' : World} {a b c ta tb tc t' : Nat} {F G H X : Cnt}
theorem Tri.below (h : Tri w0 w a b c ta tb tc F G H) (hb : Below w.heap.size w w') : Tri w0 w' a b c ta tb tc F G H := ⟨h.oa.below hb, h.ob.below hb, h.oc.below hb, h.ab, h.ac, h.bc⟩
theorem Tri.onA (h : Tri w0 w a b c ta tb tc F G H) (hf : Frm (· = a) w w') (ho : OwW w0 w' a 4 10 t' X) : Tri w0 w' a b c t' tb tc X G H :=
  ⟨ho, h.ob.beside hf h.oa.new h.ab.symm, h.oc.beside hf h.oa.new h.ac.symm, h.ab, h.ac, h.bc⟩
theorem Tri.onB (h : Tri w0 w a b c ta tb tc F G H) (hf : Frm (· = b) w w') (ho : OwW w0 w' b 4 10 t' X) : Tri w0 w' a b c ta t' tc F X H :=
  ⟨h.oa.beside hf h.ob.new h.ab, ho, h.oc.beside hf h.ob.new h.bc.symm, h.ab, h.ac, h.bc⟩
theorem Tri.onC (h : Tri w0 w a b c ta tb tc F G H) (hf : Frm (· = c) w w') (ho : OwW w0 w' c 4 10 t' X) : Tri w0 w' a b c ta tb t' F G X :=
  ⟨h.oa.beside hf h.oc.new h.ac, h.ob.beside hf h.oc.new h.bc, ho, h.ab, h.ac, h.bc⟩
end
theorem who_at {w : World} {a : Option Addr} {len cap : Nat} {D : List (List Value)} (h : SliceIn w [.bool] 1 a len cap D) {i : Nat} (hi : i < len) :
    ∃ blk off t, a = some ⟨blk, off, none⟩ ∧ w.cell? ⟨blk, off + i, none⟩ = some (.bool t) := by
  obtain ⟨h1, h2, _, _, _, h6⟩ := h
  rcases h6 with h6 | ⟨blk, off, ha, _, hc⟩
  · omega
  · have hr : D[i]? = some (D[i]'(by omega)) := List.getElem?_eq_getElem (by omega)
    have hf := h2 _ (List.getElem_mem (by omega) : D[i]'(by omega) ∈ D)
    generalize D[i]'(by omega) = row at hr hf
    cases row with
    | nil => exact hf.elim
    | cons c0 row =>
      obtain ⟨⟨t, rfl⟩, _⟩ := hf
      exact ⟨blk, off, t, ha, by simpa using hc i 0 _ _ hr rfl⟩
theorem five_at (x : Nat → Int) (k : Nat) (hk : k < 5) : [x 0, x 1, x 2, x 3, x 4][k]? = some (x k) := by
  rcases (show k = 0 ∨ k = 1 ∨ k = 2 ∨ k = 3 ∨ k = 4 by omega) with rfl | rfl | rfl | rfl | rfl <;> rfl

set_option maxRecDepth 100000 in
set_option maxHeartbeats 2000000 in
theorem walk (w : World) (a0 : Option Addr) (l0 k0 : Nat) (L0 : List (List Value)) (w0 : SliceIn w [.int .i64, .int .i64, .int .u64, .int .u64] 32 a0 l0 k0 L0) (a1 : Option Addr) (l1 k1 : Nat) (L1 : List (List Value)) (w1 : SliceIn w [.bool] 1 a1 l1 k1 L1) :
    Calls Try.prog 4 #[.slice a0 l0 k0, .slice a1 l1 k1] w fun e w' => e = .returned (.bool true) ∧ Below w.heap.size w w' := by
  obtain ⟨n, hn⟩ : ∃ n, (if 100 < l0 then 100 else l0) = n := ⟨_, rfl⟩
  have hn' : n ≤ l0 ∧ n ≤ 100 ∧ (n < 100 → n = l0) := by rw [← hn]; split <;> omega
  have hml := w0.2.2.2.2.1
  have hlk := w0.2.2.1
  have hml1 := w1.2.2.2.2.1
  have hlk1 := w1.2.2.1
  unfold maxLen at hml hml1
  have HS := Lib.hid w0
  have HV := Lib.hid w1
  clear w0 w1 hn
  go_enter Try.func4, Try.ntmps4
  go_wp2_with fail
  refine (awake_any _).mono ?_
  rintro r wa ⟨rfl, hba⟩
  have HA := Lib.hid hba
  clear hba
  go_wp2_with fail
  refine (ow_new w wa 4 10 (by omega) (by omega) (by omega) (by omega) HA.out).mono ?_
  rintro r w1 ⟨rfl, o1, _⟩
  generalize wa.heap.size = ba at *
  have O1 := Lib.hid o1
  clear o1
  go_wp2_with fail
  refine (ow_new w w1 4 10 (by omega) (by omega) (by omega) (by omega) O1.out.low).mono ?_
  rintro r w2 ⟨rfl, o2, hbl⟩
  have o1 := O1.out.below hbl
  have hab : ba ≠ w1.heap.size := by have := O1.out.win.lt; omega
  generalize w1.heap.size = bb at *
  have O1' := Lib.hid o1
  have O2 := Lib.hid o2
  have HAB := Lib.hid hab
  clear o1 o2 hbl hab O1
  go_wp2_with fail
  refine (ow_new w w2 4 10 (by omega) (by omega) (by omega) (by omega) O2.out.low).mono ?_
  rintro r w3 ⟨rfl, o3, hbl⟩
  have o1 := O1'.out.below hbl
  have o2 := O2.out.below hbl
  have hac : ba ≠ w2.heap.size := by have := O1'.out.win.lt; omega
  have hbc : bb ≠ w2.heap.size := by have := O2.out.win.lt; omega
  generalize w2.heap.size = bc at *
  have T0 : Hid (Tri w w3 ba bb bc 0 0 0 (fun _ _ => 0) (fun _ _ => 0) (fun _ _ => 0)) := Lib.hid ⟨o1, o2, o3, HAB.out, hac, hbc⟩
  clear o1 o2 o3 hbl hac hbc O1' O2 HAB
  go_wp2
  go_loopg [9, 10] n (fun g v9 v10 wr => ∃ (i now t : Nat) (F G H : Cnt), i + g = n ∧ v10 = .int .i64 i ∧ now ≤ 18446744073709551615 ∧ v9 = .int .u64 now ∧ Tri w wr ba bb bc t t t F G H ∧ (∀ q j, H q j = F q j + G q j) ∧ ∀ q j, H q j ≤ 999 * i)
  case atStart => exact ⟨0, 0, 0, _, _, _, by omega, rfl, by omega, rfl, T0.out, fun _ _ => rfl, fun _ _ => by omega⟩
  case round =>
    obtain ⟨i, now, t, F, G, H, hg, rfl, hnow, rfl, htr, hsum, hle⟩ := hrel
    have GG := Lib.hid hg
    have TR := Lib.hid htr
    have SU := Lib.hid hsum
    have LE := Lib.hid hle
    clear hg htr hsum hle
    by_cases hin : i < n
    · have hi1 : (i : Int) < l0 := by omega
      have hi2 : (i : Int) < 100 := by omega
      obtain ⟨blk, off, kd, x, m, rfl, q0, q1, q2, hx, hm⟩ := deed_at HS.out (i := i) (by omega)
      have p0 := cell_later TR.out.oa.low q0
      have p1 := cell_later TR.out.oa.low q1
      have p2 := cell_later TR.out.oa.low q2
      have hab := addS_bd (a := now) (b := x) (by omega) hx.1
      have hla := later_any now x wr (by omega) hx.1 (by omega) hx.2
      obtain ⟨now', hno⟩ : ∃ now' : Nat, addS now x = now' := ⟨(addS now x).toNat, by omega⟩
      rw [hno] at hla hab
      obtain ⟨mm, hmm⟩ : ∃ mm : Nat, m % 1000 = mm := ⟨(m % 1000).toNat, by omega⟩
      have hm9 : mm ≤ 999 := by omega
      obtain ⟨t', ht'⟩ : ∃ t', max (now' / 10) t = t' := ⟨_, rfl⟩
      have HT := Lib.hid ht'
      have Q0 := Lib.hid q0
      clear hno ht' q0 q1 q2
      go_wp2_with fail
      refine hla.mono ?_
      clear hla
      rintro r w2 ⟨rfl, rfl⟩
      go_wp2_with fail
      refine (ow_addk w bc 4 10 t now' kd mm H wr t' TR.out.oc (by omega) (by omega) (by omega) HT.out).mono ?_
      rintro r w4 ⟨ok, rfl, hf, tc, htc, o4⟩
      have T4 := Lib.hid (TR.out.onC hf o4)
      have HTC := Lib.hid htc
      have p0 := cell_later o4.low Q0.out
      clear hf htc o4 p1 p2
      have HMI : Hid ((999 * i : Int) ≤ 1000000) := Lib.hid (by omega)
      by_cases hw : i < l1
      · have hw' : (i : Int) < l1 := by omega
        obtain ⟨blk', off', tt, rfl, r0⟩ := who_at HV.out hw
        have r1 := cell_later T4.out.oa.low r0
        clear r0
        cases tt with
        | true =>
          go_wp2_with fail
          refine (ow_addk w ba 4 10 t now' kd mm F w4 t' T4.out.oa (by omega) (by omega) (by omega) HT.out).mono ?_
          rintro r w5 ⟨ok5, rfl, hf, ta, hta, o5⟩
          have T5 := Lib.hid (T4.out.onA hf o5)
          have HTA := Lib.hid hta
          have HTB := HT
          have J := Lib.hid (addk_join (t := t') (k := kd) (n := mm) SU.out LE.out TR.out.oa.nonneg TR.out.ob.nonneg HMI.out (by omega) (by omega))
          have SU' := Lib.hid J.out.1
          have LE' := Lib.hid J.out.2
          clear hf hta o5 p0 r1 hmm J
          generalize addk F t' kd mm = F' at *
          generalize addk H t' kd mm = H' at *
          generalize hG' : G = G' at *
          generalize hok : ok = ok' at *
          clear hG' hok
          generalize htb : t = tb at *
          clear htb
          have X : Hid (∀ j, 0 ≤ tot F' t' j 4 ∧ 0 ≤ tot G' t' j 4 ∧ tot H' t' j 4 = tot F' t' j 4 + tot G' t' j 4 ∧ tot H' t' j 4 ≤ 4000000) := Lib.hid fun j => by
            have h1 := tot_nonneg (F := F') (t := t') (k := j) (n := 4) (fun q => T5.out.oa.nonneg q j)
            have h2 := tot_nonneg (F := G') (t := t') (k := j) (n := 4) (fun q => T5.out.ob.nonneg q j)
            have h3 := tot_add (F := H') (G := F') (H := G') (t := t') (k := j) (n := 4) (fun q => SU'.out q j)
            have h4 := tot_le (F := H') (t := t') (k := j) (n := 4) (c := 1000000) (by omega) (fun q => by have := LE'.out q j; omega)
            exact ⟨h1, h2, h3, by omega⟩
          have XF : Hid (∀ j, satS (tot F' t' j 4) = tot F' t' j 4) := Lib.hid fun j => satS_of (by have := X.out j; omega)
          have XG : Hid (∀ j, satS (tot G' t' j 4) = tot G' t' j 4) := Lib.hid fun j => satS_of (by have := X.out j; omega)
          have XH : Hid (∀ j, satS (tot H' t' j 4) = tot H' t' j 4) := Lib.hid fun j => satS_of (by have := X.out j; omega)
          obtain ⟨fx, hfx⟩ : ∃ f : Nat → Int, ∀ j, tot F' t' j 4 = f j := ⟨_, fun _ => rfl⟩
          obtain ⟨fy, hfy⟩ : ∃ f : Nat → Int, ∀ j, tot G' t' j 4 = f j := ⟨_, fun _ => rfl⟩
          obtain ⟨fz, hfz⟩ : ∃ f : Nat → Int, ∀ j, tot H' t' j 4 = f j := ⟨_, fun _ => rfl⟩
          have Y : Hid (∀ j, 0 ≤ fx j ∧ 0 ≤ fy j ∧ fz j = fx j + fy j ∧ fz j ≤ 4000000) := Lib.hid fun j => by rw [← hfx, ← hfy, ← hfz]; exact X.out j
          have FX := Lib.hid (fun (j : Nat) (_ : j < 5) => (XF.out j).trans (hfx j))
          have FY := Lib.hid (fun (j : Nat) (_ : j < 5) => (XG.out j).trans (hfy j))
          have FZ := Lib.hid (fun (j : Nat) (_ : j < 5) => (XH.out j).trans (hfz j))
          clear hfx hfy hfz X XF XG XH T4 TR SU LE
          go_wp2_with fail
          refine (ow_countf w ba 4 10 ta now' F' w5 t' fx T5.out.oa (by omega) HTA.out FX.out).mono ?_
          rintro r w6 ⟨rfl, hf, o6⟩
          have T6 := Lib.hid (T5.out.onA hf o6)
          clear hf o6 T5
          go_wp2_with fail
          have hz := heap_alloc_at w6 (tobj [fx 0, fx 1, fx 2, fx 3, fx 4])
          have hbz := below_alloc w6 (tobj [fx 0, fx 1, fx 2, fx 3, fx 4])
          obtain ⟨w7, hw7⟩ : ∃ w7, w6.alloc (tobj [fx 0, fx 1, fx 2, fx 3, fx 4]) = w7 := ⟨_, rfl⟩
          rw [hw7] at hz hbz
          simp only [tobj, List.map_cons, List.map_nil] at hw7
          rw [hw7]
          have T7 := Lib.hid (T6.out.below hbz)
          clear hbz hw7 T6
          generalize w6.heap.size = gx at *
          have Z7 := Lib.hid hz
          clear hz
          refine (ow_countf w bb 4 10 tb now' G' w7 t' fy T7.out.ob (by omega) HTB.out FY.out).mono ?_
          rintro r w8 ⟨rfl, hf, o8⟩
          have T8 := Lib.hid (T7.out.onB hf o8)
          have Z8 := Lib.hid (T7.out.ob.win.kept hf Z7.out (by decide))
          clear hf o8 T7 Z7
          go_wp2_with fail
          have hz := heap_alloc_at w8 (tobj [fy 0, fy 1, fy 2, fy 3, fy 4])
          have hbz := below_alloc w8 (tobj [fy 0, fy 1, fy 2, fy 3, fy 4])
          obtain ⟨w9, hw9⟩ : ∃ w9, w8.alloc (tobj [fy 0, fy 1, fy 2, fy 3, fy 4]) = w9 := ⟨_, rfl⟩
          rw [hw9] at hz hbz
          simp only [tobj, List.map_cons, List.map_nil] at hw9
          rw [hw9]
          have T9 := Lib.hid (T8.out.below hbz)
          have Z9 := Lib.hid (kb_below Z8.out hbz)
          clear hbz hw9 T8 Z8
          generalize w8.heap.size = gy at *
          have V9 := Lib.hid hz
          clear hz
          refine (ow_countf w bc 4 10 tc now' H' w9 t' fz T9.out.oc (by omega) HTC.out FZ.out).mono ?_
          rintro r w10 ⟨rfl, hf, o10⟩
          have T10 := Lib.hid (T9.out.onC hf o10)
          have Z10 := Lib.hid (T9.out.oc.win.kept hf Z9.out (by decide))
          have V10 := Lib.hid (T9.out.oc.win.kept hf V9.out (by decide))
          clear hf o10 T9 Z9 V9
          go_wp2
          have hz := heap_alloc_at w10 (tobj [fz 0, fz 1, fz 2, fz 3, fz 4])
          have hbz := below_alloc w10 (tobj [fz 0, fz 1, fz 2, fz 3, fz 4])
          obtain ⟨w11, hw11⟩ : ∃ w11, w10.alloc (tobj [fz 0, fz 1, fz 2, fz 3, fz 4]) = w11 := ⟨_, rfl⟩
          rw [hw11] at hz hbz
          simp only [tobj, List.map_cons, List.map_nil] at hw11
          rw [hw11]
          have T11 := Lib.hid (T10.out.below hbz)
          have Z11 := Lib.hid (kb_below Z10.out hbz)
          have V11 := Lib.hid (kb_below V10.out hbz)
          clear hbz hw11 T10 Z10 V10
          generalize w10.heap.size = gz at *
          have U11 := Lib.hid hz
          clear hz FX FY FZ
          go_loopg [15] 5 (fun g v15 wr => ∃ k : Nat, k + g = 5 ∧ v15 = .int .i64 k ∧ Ali w11 wr)
          case atStart => exact ⟨0, rfl, rfl, Ali.refl _⟩
          case round =>
            obtain ⟨k, hk, rfl, hali⟩ := hrel
            have KK := Lib.hid hk
            have AL := Lib.hid hali
            clear hk hali
            by_cases hk5 : k < 5
            · have hk5' : (k : Int) < 5 := by omega
              have hY := Y.out k
              have c0 := tobj_cell (w := wr) (by rw [AL.out.heap]; exact Z11.out) (five_at fx k hk5)
              have c1 := tobj_cell (w := wr) (by rw [AL.out.heap]; exact V11.out) (five_at fy k hk5)
              have c2 := tobj_cell (w := wr) (by rw [AL.out.heap]; exact U11.out) (five_at fz k hk5)
              rw [hY.2.2.1] at c2
              have hb0 := hY.1
              have hb1 := hY.2.1
              have hb2 : fx k + fy k ≤ 4000000 := by have := hY.2.2; omega
              generalize fx k = xx at c0 c2 hb0 hb2
              generalize fy k = yy at c1 c2 hb1 hb2
              have hwr : IntKind.u64.wrap (xx + yy) = xx + yy := by rw [IntKind.wrap_u64]; omega
              clear hY
              go_wp2
              go_region
              go_wp2
              go_roundg (5 - (k + 1))
              case measure => have := KK.out; omega
              case rel => exact ⟨k + 1, by omega, by simp, AL.out.trans (drew_ali _)⟩
            · have hk5' : ¬ (k : Int) < 5 := by omega
              go_wp2
              go_roundg (n - (i + 1))
              case measure => have := GG.out; omega
              case rel => exact ⟨i + 1, now', t', F', G', H', by omega, by simp, by omega, rfl, ⟨T11.out.oa.ali AL.out, T11.out.ob.ali AL.out, T11.out.oc.ali AL.out, T11.out.ab, T11.out.ac, T11.out.bc⟩, SU'.out, fun q j => by have := LE'.out q j; omega⟩
        | false =>
          go_wp2_with fail
          refine (ow_addk w bb 4 10 t now' kd mm G w4 t' T4.out.ob (by omega) (by omega) (by omega) HT.out).mono ?_
          rintro r w5 ⟨ok5, rfl, hf, tb, htb, o5⟩
          have T5 := Lib.hid (T4.out.onB hf o5)
          have HTB := Lib.hid htb
          have HTA := HT
          have J := Lib.hid (addk_join (t := t') (k := kd) (n := mm) (fun q j => (SU.out q j).trans (Int.add_comm _ _)) LE.out TR.out.ob.nonneg TR.out.oa.nonneg HMI.out (by omega) (by omega))
          have SU' := Lib.hid (fun q j => (J.out.1 q j).trans (Int.add_comm _ _))
          have LE' := Lib.hid J.out.2
          clear hf htb o5 p0 r1 hmm J
          generalize addk G t' kd mm = G' at *
          generalize addk H t' kd mm = H' at *
          generalize hF' : F = F' at *
          clear hF'
          generalize hta : t = ta at *
          clear hta
          have X : Hid (∀ j, 0 ≤ tot F' t' j 4 ∧ 0 ≤ tot G' t' j 4 ∧ tot H' t' j 4 = tot F' t' j 4 + tot G' t' j 4 ∧ tot H' t' j 4 ≤ 4000000) := Lib.hid fun j => by
            have h1 := tot_nonneg (F := F') (t := t') (k := j) (n := 4) (fun q => T5.out.oa.nonneg q j)
            have h2 := tot_nonneg (F := G') (t := t') (k := j) (n := 4) (fun q => T5.out.ob.nonneg q j)
            have h3 := tot_add (F := H') (G := F') (H := G') (t := t') (k := j) (n := 4) (fun q => SU'.out q j)
            have h4 := tot_le (F := H') (t := t') (k := j) (n := 4) (c := 1000000) (by omega) (fun q => by have := LE'.out q j; omega)
            exact ⟨h1, h2, h3, by omega⟩
          have XF : Hid (∀ j, satS (tot F' t' j 4) = tot F' t' j 4) := Lib.hid fun j => satS_of (by have := X.out j; omega)
          have XG : Hid (∀ j, satS (tot G' t' j 4) = tot G' t' j 4) := Lib.hid fun j => satS_of (by have := X.out j; omega)
          have XH : Hid (∀ j, satS (tot H' t' j 4) = tot H' t' j 4) := Lib.hid fun j => satS_of (by have := X.out j; omega)
          obtain ⟨fx, hfx⟩ : ∃ f : Nat → Int, ∀ j, tot F' t' j 4 = f j := ⟨_, fun _ => rfl⟩
          obtain ⟨fy, hfy⟩ : ∃ f : Nat → Int, ∀ j, tot G' t' j 4 = f j := ⟨_, fun _ => rfl⟩
          obtain ⟨fz, hfz⟩ : ∃ f : Nat → Int, ∀ j, tot H' t' j 4 = f j := ⟨_, fun _ => rfl⟩
          have Y : Hid (∀ j, 0 ≤ fx j ∧ 0 ≤ fy j ∧ fz j = fx j + fy j ∧ fz j ≤ 4000000) := Lib.hid fun j => by rw [← hfx, ← hfy, ← hfz]; exact X.out j
          have FX := Lib.hid (fun (j : Nat) (_ : j < 5) => (XF.out j).trans (hfx j))
          have FY := Lib.hid (fun (j : Nat) (_ : j < 5) => (XG.out j).trans (hfy j))
          have FZ := Lib.hid (fun (j : Nat) (_ : j < 5) => (XH.out j).trans (hfz j))
          clear hfx hfy hfz X XF XG XH T4 TR SU LE
          go_wp2_with fail
          refine (ow_countf w ba 4 10 ta now' F' w5 t' fx T5.out.oa (by omega) HTA.out FX.out).mono ?_
          rintro r w6 ⟨rfl, hf, o6⟩
          have T6 := Lib.hid (T5.out.onA hf o6)
          clear hf o6 T5
          go_wp2_with fail
          have hz := heap_alloc_at w6 (tobj [fx 0, fx 1, fx 2, fx 3, fx 4])
          have hbz := below_alloc w6 (tobj [fx 0, fx 1, fx 2, fx 3, fx 4])
          obtain ⟨w7, hw7⟩ : ∃ w7, w6.alloc (tobj [fx 0, fx 1, fx 2, fx 3, fx 4]) = w7 := ⟨_, rfl⟩
          rw [hw7] at hz hbz
          simp only [tobj, List.map_cons, List.map_nil] at hw7
          rw [hw7]
          have T7 := Lib.hid (T6.out.below hbz)
          clear hbz hw7 T6
          generalize w6.heap.size = gx at *
          have Z7 := Lib.hid hz
          clear hz
          refine (ow_countf w bb 4 10 tb now' G' w7 t' fy T7.out.ob (by omega) HTB.out FY.out).mono ?_
          rintro r w8 ⟨rfl, hf, o8⟩
          have T8 := Lib.hid (T7.out.onB hf o8)
          have Z8 := Lib.hid (T7.out.ob.win.kept hf Z7.out (by decide))
          clear hf o8 T7 Z7
          go_wp2_with fail
          have hz := heap_alloc_at w8 (tobj [fy 0, fy 1, fy 2, fy 3, fy 4])
          have hbz := below_alloc w8 (tobj [fy 0, fy 1, fy 2, fy 3, fy 4])
          obtain ⟨w9, hw9⟩ : ∃ w9, w8.alloc (tobj [fy 0, fy 1, fy 2, fy 3, fy 4]) = w9 := ⟨_, rfl⟩
          rw [hw9] at hz hbz
          simp only [tobj, List.map_cons, List.map_nil] at hw9
          rw [hw9]
          have T9 := Lib.hid (T8.out.below hbz)
          have Z9 := Lib.hid (kb_below Z8.out hbz)
          clear hbz hw9 T8 Z8
          generalize w8.heap.size = gy at *
          have V9 := Lib.hid hz
          clear hz
          refine (ow_countf w bc 4 10 tc now' H' w9 t' fz T9.out.oc (by omega) HTC.out FZ.out).mono ?_
          rintro r w10 ⟨rfl, hf, o10⟩
          have T10 := Lib.hid (T9.out.onC hf o10)
          have Z10 := Lib.hid (T9.out.oc.win.kept hf Z9.out (by decide))
          have V10 := Lib.hid (T9.out.oc.win.kept hf V9.out (by decide))
          clear hf o10 T9 Z9 V9
          go_wp2
          have hz := heap_alloc_at w10 (tobj [fz 0, fz 1, fz 2, fz 3, fz 4])
          have hbz := below_alloc w10 (tobj [fz 0, fz 1, fz 2, fz 3, fz 4])
          obtain ⟨w11, hw11⟩ : ∃ w11, w10.alloc (tobj [fz 0, fz 1, fz 2, fz 3, fz 4]) = w11 := ⟨_, rfl⟩
          rw [hw11] at hz hbz
          simp only [tobj, List.map_cons, List.map_nil] at hw11
          rw [hw11]
          have T11 := Lib.hid (T10.out.below hbz)
          have Z11 := Lib.hid (kb_below Z10.out hbz)
          have V11 := Lib.hid (kb_below V10.out hbz)
          clear hbz hw11 T10 Z10 V10
          generalize w10.heap.size = gz at *
          have U11 := Lib.hid hz
          clear hz FX FY FZ
          go_loopg [15] 5 (fun g v15 wr => ∃ k : Nat, k + g = 5 ∧ v15 = .int .i64 k ∧ Ali w11 wr)
          case atStart => exact ⟨0, rfl, rfl, Ali.refl _⟩
          case round =>
            obtain ⟨k, hk, rfl, hali⟩ := hrel
            have KK := Lib.hid hk
            have AL := Lib.hid hali
            clear hk hali
            by_cases hk5 : k < 5
            · have hk5' : (k : Int) < 5 := by omega
              have hY := Y.out k
              have c0 := tobj_cell (w := wr) (by rw [AL.out.heap]; exact Z11.out) (five_at fx k hk5)
              have c1 := tobj_cell (w := wr) (by rw [AL.out.heap]; exact V11.out) (five_at fy k hk5)
              have c2 := tobj_cell (w := wr) (by rw [AL.out.heap]; exact U11.out) (five_at fz k hk5)
              rw [hY.2.2.1] at c2
              have hb0 := hY.1
              have hb1 := hY.2.1
              have hb2 : fx k + fy k ≤ 4000000 := by have := hY.2.2; omega
              generalize fx k = xx at c0 c2 hb0 hb2
              generalize fy k = yy at c1 c2 hb1 hb2
              have hwr : IntKind.u64.wrap (xx + yy) = xx + yy := by rw [IntKind.wrap_u64]; omega
              clear hY
              go_wp2
              go_region
              go_wp2
              go_roundg (5 - (k + 1))
              case measure => have := KK.out; omega
              case rel => exact ⟨k + 1, by omega, by simp, AL.out.trans (drew_ali _)⟩
            · have hk5' : ¬ (k : Int) < 5 := by omega
              go_wp2
              go_roundg (n - (i + 1))
              case measure => have := GG.out; omega
              case rel => exact ⟨i + 1, now', t', F', G', H', by omega, by simp, by omega, rfl, ⟨T11.out.oa.ali AL.out, T11.out.ob.ali AL.out, T11.out.oc.ali AL.out, T11.out.ab, T11.out.ac, T11.out.bc⟩, SU'.out, fun q j => by have := LE'.out q j; omega⟩
      · have hw' : ¬ (i : Int) < l1 := by omega
        go_wp2_with fail
        refine (ow_addk w bb 4 10 t now' kd mm G w4 t' T4.out.ob (by omega) (by omega) (by omega) HT.out).mono ?_
        rintro r w5 ⟨ok5, rfl, hf, tb, htb, o5⟩
        have T5 := Lib.hid (T4.out.onB hf o5)
        have HTB := Lib.hid htb
        have HTA := HT
        have J := Lib.hid (addk_join (t := t') (k := kd) (n := mm) (fun q j => (SU.out q j).trans (Int.add_comm _ _)) LE.out TR.out.ob.nonneg TR.out.oa.nonneg HMI.out (by omega) (by omega))
        have SU' := Lib.hid (fun q j => (J.out.1 q j).trans (Int.add_comm _ _))
        have LE' := Lib.hid J.out.2
        clear hf htb o5 p0 hmm J
        generalize addk G t' kd mm = G' at *
        generalize addk H t' kd mm = H' at *
        generalize hF' : F = F' at *
        clear hF'
        generalize hta : t = ta at *
        clear hta
        have X : Hid (∀ j, 0 ≤ tot F' t' j 4 ∧ 0 ≤ tot G' t' j 4 ∧ tot H' t' j 4 = tot F' t' j 4 + tot G' t' j 4 ∧ tot H' t' j 4 ≤ 4000000) := Lib.hid fun j => by
          have h1 := tot_nonneg (F := F') (t := t') (k := j) (n := 4) (fun q => T5.out.oa.nonneg q j)
          have h2 := tot_nonneg (F := G') (t := t') (k := j) (n := 4) (fun q => T5.out.ob.nonneg q j)
          have h3 := tot_add (F := H') (G := F') (H := G') (t := t') (k := j) (n := 4) (fun q => SU'.out q j)
          have h4 := tot_le (F := H') (t := t') (k := j) (n := 4) (c := 1000000) (by omega) (fun q => by have := LE'.out q j; omega)
          exact ⟨h1, h2, h3, by omega⟩
        have XF : Hid (∀ j, satS (tot F' t' j 4) = tot F' t' j 4) := Lib.hid fun j => satS_of (by have := X.out j; omega)
        have XG : Hid (∀ j, satS (tot G' t' j 4) = tot G' t' j 4) := Lib.hid fun j => satS_of (by have := X.out j; omega)
        have XH : Hid (∀ j, satS (tot H' t' j 4) = tot H' t' j 4) := Lib.hid fun j => satS_of (by have := X.out j; omega)
        obtain ⟨fx, hfx⟩ : ∃ f : Nat → Int, ∀ j, tot F' t' j 4 = f j := ⟨_, fun _ => rfl⟩
        obtain ⟨fy, hfy⟩ : ∃ f : Nat → Int, ∀ j, tot G' t' j 4 = f j := ⟨_, fun _ => rfl⟩
        obtain ⟨fz, hfz⟩ : ∃ f : Nat → Int, ∀ j, tot H' t' j 4 = f j := ⟨_, fun _ => rfl⟩
        have Y : Hid (∀ j, 0 ≤ fx j ∧ 0 ≤ fy j ∧ fz j = fx j + fy j ∧ fz j ≤ 4000000) := Lib.hid fun j => by rw [← hfx, ← hfy, ← hfz]; exact X.out j
        have FX := Lib.hid (fun (j : Nat) (_ : j < 5) => (XF.out j).trans (hfx j))
        have FY := Lib.hid (fun (j : Nat) (_ : j < 5) => (XG.out j).trans (hfy j))
        have FZ := Lib.hid (fun (j : Nat) (_ : j < 5) => (XH.out j).trans (hfz j))
        clear hfx hfy hfz X XF XG XH T4 TR SU LE
        go_wp2_with fail
        refine (ow_countf w ba 4 10 ta now' F' w5 t' fx T5.out.oa (by omega) HTA.out FX.out).mono ?_
        rintro r w6 ⟨rfl, hf, o6⟩
        have T6 := Lib.hid (T5.out.onA hf o6)
        clear hf o6 T5
        go_wp2_with fail
        have hz := heap_alloc_at w6 (tobj [fx 0, fx 1, fx 2, fx 3, fx 4])
        have hbz := below_alloc w6 (tobj [fx 0, fx 1, fx 2, fx 3, fx 4])
        obtain ⟨w7, hw7⟩ : ∃ w7, w6.alloc (tobj [fx 0, fx 1, fx 2, fx 3, fx 4]) = w7 := ⟨_, rfl⟩
        rw [hw7] at hz hbz
        simp only [tobj, List.map_cons, List.map_nil] at hw7
        rw [hw7]
        have T7 := Lib.hid (T6.out.below hbz)
        clear hbz hw7 T6
        generalize w6.heap.size = gx at *
        have Z7 := Lib.hid hz
        clear hz
        refine (ow_countf w bb 4 10 tb now' G' w7 t' fy T7.out.ob (by omega) HTB.out FY.out).mono ?_
        rintro r w8 ⟨rfl, hf, o8⟩
        have T8 := Lib.hid (T7.out.onB hf o8)
        have Z8 := Lib.hid (T7.out.ob.win.kept hf Z7.out (by decide))
        clear hf o8 T7 Z7
        go_wp2_with fail
        have hz := heap_alloc_at w8 (tobj [fy 0, fy 1, fy 2, fy 3, fy 4])
        have hbz := below_alloc w8 (tobj [fy 0, fy 1, fy 2, fy 3, fy 4])
        obtain ⟨w9, hw9⟩ : ∃ w9, w8.alloc (tobj [fy 0, fy 1, fy 2, fy 3, fy 4]) = w9 := ⟨_, rfl⟩
        rw [hw9] at hz hbz
        simp only [tobj, List.map_cons, List.map_nil] at hw9
        rw [hw9]
        have T9 := Lib.hid (T8.out.below hbz)
        have Z9 := Lib.hid (kb_below Z8.out hbz)
        clear hbz hw9 T8 Z8
        generalize w8.heap.size = gy at *
        have V9 := Lib.hid hz
        clear hz
        refine (ow_countf w bc 4 10 tc now' H' w9 t' fz T9.out.oc (by omega) HTC.out FZ.out).mono ?_
        rintro r w10 ⟨rfl, hf, o10⟩
        have T10 := Lib.hid (T9.out.onC hf o10)
        have Z10 := Lib.hid (T9.out.oc.win.kept hf Z9.out (by decide))
        have V10 := Lib.hid (T9.out.oc.win.kept hf V9.out (by decide))
        clear hf o10 T9 Z9 V9
        go_wp2
        have hz := heap_alloc_at w10 (tobj [fz 0, fz 1, fz 2, fz 3, fz 4])
        have hbz := below_alloc w10 (tobj [fz 0, fz 1, fz 2, fz 3, fz 4])
        obtain ⟨w11, hw11⟩ : ∃ w11, w10.alloc (tobj [fz 0, fz 1, fz 2, fz 3, fz 4]) = w11 := ⟨_, rfl⟩
        rw [hw11] at hz hbz
        simp only [tobj, List.map_cons, List.map_nil] at hw11
        rw [hw11]
        have T11 := Lib.hid (T10.out.below hbz)
        have Z11 := Lib.hid (kb_below Z10.out hbz)
        have V11 := Lib.hid (kb_below V10.out hbz)
        clear hbz hw11 T10 Z10 V10
        generalize w10.heap.size = gz at *
        have U11 := Lib.hid hz
        clear hz FX FY FZ
        go_loopg [15] 5 (fun g v15 wr => ∃ k : Nat, k + g = 5 ∧ v15 = .int .i64 k ∧ Ali w11 wr)
        case atStart => exact ⟨0, rfl, rfl, Ali.refl _⟩
        case round =>
          obtain ⟨k, hk, rfl, hali⟩ := hrel
          have KK := Lib.hid hk
          have AL := Lib.hid hali
          clear hk hali
          by_cases hk5 : k < 5
          · have hk5' : (k : Int) < 5 := by omega
            have hY := Y.out k
            have c0 := tobj_cell (w := wr) (by rw [AL.out.heap]; exact Z11.out) (five_at fx k hk5)
            have c1 := tobj_cell (w := wr) (by rw [AL.out.heap]; exact V11.out) (five_at fy k hk5)
            have c2 := tobj_cell (w := wr) (by rw [AL.out.heap]; exact U11.out) (five_at fz k hk5)
            rw [hY.2.2.1] at c2
            have hb0 := hY.1
            have hb1 := hY.2.1
            have hb2 : fx k + fy k ≤ 4000000 := by have := hY.2.2; omega
            generalize fx k = xx at c0 c2 hb0 hb2
            generalize fy k = yy at c1 c2 hb1 hb2
            have hwr : IntKind.u64.wrap (xx + yy) = xx + yy := by rw [IntKind.wrap_u64]; omega
            clear hY
            go_wp2
            go_region
            go_wp2
            go_roundg (5 - (k + 1))
            case measure => have := KK.out; omega
            case rel => exact ⟨k + 1, by omega, by simp, AL.out.trans (drew_ali _)⟩
          · have hk5' : ¬ (k : Int) < 5 := by omega
            go_wp2
            go_roundg (n - (i + 1))
            case measure => have := GG.out; omega
            case rel => exact ⟨i + 1, now', t', F', G', H', by omega, by simp, by omega, rfl, ⟨T11.out.oa.ali AL.out, T11.out.ob.ali AL.out, T11.out.oc.ali AL.out, T11.out.ab, T11.out.ac, T11.out.bc⟩, SU'.out, fun q j => by have := LE'.out q j; omega⟩
    · by_cases hl : i < l0
      · have hi1 : (i : Int) < l0 := by omega
        have hi2 : ¬ (i : Int) < 100 := by omega
        go_wp2
        go_ret
        exact ⟨rfl, TR.out.oa.low⟩
      · have hi1 : ¬ (i : Int) < l0 := by omega
        go_wp2
        go_ret
        exact ⟨rfl, TR.out.oa.low⟩

set_option maxRecDepth 100000 in
theorem lifted (os : Os) (started : os.Started) (H : Type) (enc : TypeId × Value → H) :
    ReturnsInHanded {} Try.checked os 4 .any (Rows.windowJoinsSpec.pre6 enc Try.prog Try.f4 Rows.windowJoinsRow.domain false) (Rows.windowJoinsSpec.post enc Try.prog Try.f4 false true false false) := by
  refine returnsInHanded_of_change_sized (C := Try.checked) own started (by kernel_rfl) Try.func4
    (ChangeSpec.witness6 (enc := enc) (C := Try.checked) false ⟨#[], #[.slice none 0 0, .slice none 0 0], []⟩ 8 (by kernel_rfl) (by kernel_rfl) (by kernel_rfl) (by kernel_rfl)) ?_
  intro W base args ds gs before hval0 hW hcnd hsz0 _
  have hval : ∀ (j : Nat) t v, Try.f4.params[j]? = some t → args[j]? = some v → Value.okWide Try.prog W .any base t v := hval0
  have hsz : (DataW.weightsEach Try.prog (Try.f4.params.toList ++ Rows.windowJoinsSpec.plain.varTypes Try.prog) (ds ++ gs)).all (· ≤ reachBytes) = true := hsz0
  have hW' := hW
  obtain ⟨p, q, hA0, hV, rfl, hfz, hnd⟩ := hW
  have hA : DataW.TrodAll enc Try.prog W 0 (fun _ => true) true Try.f4.params.toList args.toList ds p := hA0
  rw [Try.params4] at hA hval hsz
  have hAk := hA
  obtain ⟨v0, vs0, d0, ds0, p0, q0, hargs, rfl, rfl, h0, r0⟩ := trodAll_cons hA
  obtain ⟨v1, vs1, d1, ds1, p1, q1, rfl, rfl, rfl, h1, r1⟩ := trodAll_cons r0
  obtain ⟨rfl, rfl, rfl⟩ := trodAll_nil r1
  obtain rfl : args = #[v0, v1] := by cases args; simp_all
  obtain ⟨rfl, rfl⟩ := trodVars_none hV
  obtain ⟨a0, l0, k0, L0, rfl, w0⟩ := open_slice_flat (ks := [.int .i64, .int .i64, .int .u64, .int .u64]) (bytes := 32) 8 Try.underlying33 (by kernel_rfl) (by kernel_rfl) (by decide) (by kernel_rfl) (hval 0 33 v0 rfl rfl) h0 (fun elems rest hd => by subst hd; exact sized_slice hsz (j := 0) (t := 33) (e := 37) rfl rfl Try.underlying33)
  obtain ⟨a1, l1, k1, L1, rfl, w1⟩ := open_slice_flat (ks := [.bool]) (bytes := 1) 8 Try.underlying34 (by kernel_rfl) (by kernel_rfl) (by decide) (by kernel_rfl) (hval 1 34 v1 rfl rfl) h1 (fun elems rest hd => by subst hd; exact sized_slice hsz (j := 1) (t := 34) (e := 4) rfl rfl Try.underlying34)
  clear hA0 hval0 hsz0
  refine (walk W a0 l0 k0 L0 w0 a1 l1 k1 L1 w1).mono fun e W' ⟨he, bel⟩ => ?_
  subst he
  exact ⟨_, rfl, _, _, _, [], _, [], hW', trodAll_mk1 (shut_bool Try.underlying4 _), trodAll_below laidOut bel _ _ _ _ (by kernel_rfl) hAk, rfl, bel.frame _, fun h => by cases h⟩

theorem over : Rows.windowJoinsRow.holds Try.pinned (OpenSpec.ofChange Rows.windowJoinsSpec) :=
  OpenClaim.holds_of_wide 4 Try.f4 rfl rfl rfl rfl rfl rfl rfl ⟨rfl, rfl, rfl, rfl, rfl⟩ rfl rfl rfl rfl rfl (by kernel_rfl) Try.func4 (by kernel_rfl)
    (of_decide_eq_true (by kernel_rfl)) (by unfold Func.isWrapper; first | (rw [if_pos (by decide +kernel)]; kernel_rfl) | (rw [if_neg (by decide +kernel)]; exact ⟨rfl, rfl⟩))
    (fun os started H enc _ => lifted os started H enc)

theorem proved : Rows.WindowJoinsSaid := over
#print axioms proved
end Go.Proofs.Ytmnfncgalnhplaa.windowJoins
