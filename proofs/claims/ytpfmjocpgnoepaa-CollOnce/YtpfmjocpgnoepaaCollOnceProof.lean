/- What is proved: CollOnce of porpoiselaw14 answers true for every input, and leaves its arguments as they were; conditions: those of the given row alone. -/
import Derived.Test.YtpfmjocpgnoepaaKit
import Derived.Test.YtpfmjocpgnoepaaOnce14
import Derived.Deep.DeepCutAuto
namespace Go.Proofs.Ytpfmjocpgnoepaa.collOnce
open Go.ChangeShapes Go.WideShapes Go.ChangeAt Go.RowKit Go.Deep
open Go.ChangeMaps (open_string shut_string)
set_option linter.unusedVariables false

theorem own : ownKnob Try.prog.godebug = none := by kernel_rfl
theorem laidOut : laidOutB Try.prog = true := by kernel_rfl

theorem cells_u8 {w : World} {g : Nat} {ty : TypeId} {x y : Int} (h : w.heap[g]? = some (.cells #[.int .u8 x, .int .u8 y] ty)) : w.cell? ⟨g, 0, none⟩ = some (.int .u8 x) ∧ w.cell? ⟨g, 1, none⟩ = some (.int .u8 y) :=
  ⟨by rw [cell_of h]; rfl, by rw [cell_of h]; rfl⟩
theorem wait_opn (S : CO) (now : Int) (h : S.exp now = S.opn) : (S.wait now).opn = false := by
  unfold CO.wait
  rw [h]
  cases ho : S.opn with
  | true => rfl
  | false => exact ho

set_option maxRecDepth 100000 in
set_option maxHeartbeats 4000000 in
theorem walk (w : World) (c0 : Array Value) (w0 : Flat [.int .u8, .int .u8] c0.toList) (a1 : Option Addr) (l1 k1 : Nat) (L1 : List (List Value)) (w1 : SliceIn w [.int .i64, .int .i64, .int .i64, .int .u64] 32 a1 l1 k1 L1) :
    Calls Try.prog 11 #[.agg c0, .slice a1 l1 k1] w fun e w' => e = .returned (.bool true) ∧ Below w.heap.size w w' := by
  obtain ⟨x0, x1, rfl, u0, u1⟩ := Flat.two w0
  obtain ⟨V, hrow, hfit, hlk, hkm⟩ := deeds_in w1
  obtain ⟨n, hn1, hn2, hn3⟩ := cap14 l1
  have hml := hrow.2.1
  unfold maxLen at hml
  obtain ⟨p0, p0'⟩ := bounds_u8 u0
  obtain ⟨p1, p1'⟩ := bounds_u8 u1
  obtain ⟨e, he⟩ : ∃ e, x1.tmod 4 = e := ⟨_, rfl⟩
  have he' : x1 % 4 = e := by rw [← he]; exact (Int.tmod_eq_emod_of_nonneg p1).symm
  have e0 : 0 ≤ e := by omega
  have e1 : e < 4 := by omega
  obtain ⟨N, hN⟩ : ∃ N, 1 + e = N := ⟨_, rfl⟩
  have hN1 : 1 ≤ N := by omega
  have hN4 : N ≤ 4 := by omega
  obtain ⟨Wd, hWd⟩ : ∃ Wd, 1 + x0 = Wd := ⟨_, rfl⟩
  have hW1 : 1 ≤ Wd := by omega
  have hW2 : Wd ≤ 256 := by omega
  have HR := Lib.hid hrow
  have HF := Lib.hid hfit
  have K0 := Lib.hid (heap_alloc_at w (.cells #[.int .u8 x0, .int .u8 x1] 103))
  have B0 := Lib.hid (below_alloc w (.cells #[.int .u8 x0, .int .u8 x1] 103))
  clear w0 w1 hrow hfit hlk hkm u0 u1
  go_enter Try.func11, Try.ntmps11
  go_wp2_with fail
  refine (awake14_any _).mono ?_
  rintro r wa ⟨rfl, ba⟩
  have LA := Lib.hid (B0.out.trans (ba.mono B0.out.size))
  obtain ⟨z0, z1⟩ := cells_u8 (kb_below K0.out ba)
  clear ba B0 K0
  go_wp2_with fail
  refine (new_at Wd N wa (by omega) (decide_eq_true ⟨hW1, by omega, hN1, hN4⟩)).mono ?_
  rintro r w1 ⟨rfl, h1, b1⟩
  have GW : Hid (w.heap.size ≤ wa.heap.size) := Lib.hid LA.out.size
  have L1 := Lib.hid (LA.out.trans (b1.mono LA.out.size))
  have H0 : Hid (CH w w1 wa.heap.size ⟨Wd, N, [], [], 0⟩ (.slice none 0 0) (.slice none 0 0) [] [] []) := Lib.hid ⟨⟨_, _, _, _, _, _, h1, (fun _ _ e => by cases e), (fun _ _ e => by cases e)⟩, OwnR.nil _ _ _, OwnR.nil _ _ _, trivial, L1.out⟩
  have PN0 : Hid (PN ⟨Wd, N, [], [], 0⟩ N Wd 0 [] [] 0 0) := Lib.hid ⟨⟨rfl, rfl, by show (0 : Int) < N; omega, ⟨fun _ => rfl, fun _ => rfl⟩⟩, (fun e => by cases e), rfl, (fun p hp => by cases hp), rfl, Nat.le_refl _, Nat.le_refl _⟩
  have NB1 := Lib.hid hN1
  have NB4 := Lib.hid hN4
  have WB := Lib.hid (⟨hW1, hW2⟩ : 1 ≤ Wd ∧ Wd ≤ 256)
  clear h1 b1 LA L1 hN he he' e0 e1 p0 p0' p1 p1' z0 z1 hWd hN1 hN4 hW1 hW2
  go_wp2
  generalize wa.heap.size = b at *
  go_loopg [8, 9, 10, 11, 12] n (fun q v8 v9 v10 v11 v12 wr => ∃ (i : Nat) (now due : Int) (S : CO) (CL : List Int) (TL : List BS) (PL : List PB), i + q = n ∧ v12 = .int .i64 i ∧ v10 = .int .u64 now ∧ v11 = .int .u64 due ∧ (0 ≤ now ∧ now ≤ 50 * (i : Int)) ∧ PN S N Wd due CL PL i (2 * i) ∧ CH w wr b S v8 v9 CL TL PL)
  case atStart => exact ⟨0, 0, 0, _, _, _, _, by omega, rfl, rfl, rfl, by omega, PN0.out, H0.out⟩
  case round =>
    obtain ⟨i, now, due, S, CL, TL, PL, hq, rfl, rfl, rfl, hnow, hpn, hch⟩ := hrel
    have G := Lib.hid hq
    have P := Lib.hid hpn
    have H := Lib.hid hch
    have NW := Lib.hid hnow
    clear hq hpn hch hnow PN0 H0
    go_upto_region 11 with fail
    go_cut [42] (fun v42 wq => v42 = .bool (decide (i < n)) ∧ wq = wr)
    case first =>
      by_cases hin : i < n
      · have hi1 : (i : Int) < l1 := by omega
        have hi2 : (i : Int) < 100 := by omega
        have HIN := Lib.hid hin
        clear hin
        go_wp2
        go_meet
        exact ⟨by rw [decide_eq_true HIN.out], rfl⟩
      · have HIN := Lib.hid hin
        have hex : ((i : Int) < l1 ∧ ¬ (i : Int) < 100) ∨ ¬ (i : Int) < l1 := by have := G.out; omega
        clear hin
        rcases hex with ⟨h1, h2⟩ | h1
        all_goals
          go_wp2
          go_meet
          exact ⟨by rw [decide_eq_false HIN.out], rfl⟩
    case rest =>
      obtain ⟨rfl, rfl⟩ := hcut
      by_cases hin : i < n
      · rw [decide_eq_true hin]
        have hi1 : (i : Int) < l1 := by omega
        obtain ⟨rb, off, d, rfl, hd, hlt, q0, q1, q2, q3⟩ := (HR.out.later H.out.low).deed_at (i := i) (by omega)
        have hlt0 := HR.out.lt rfl (by omega)
        have DF := Lib.hid (HF.out d (List.mem_of_getElem? hd))
        have hs : ∀ wx, Below w.heap.size w wx → wx.cell? ⟨rb, off + i * 4 + 1, none⟩ = some (.int .i64 d.i) ∧ wx.cell? ⟨rb, off + i * 4 + 2, none⟩ = some (.int .i64 d.x) := fun wx hb => by
          have h := (hb.block rb hlt0).trans (H.out.low.block rb hlt0).symm
          exact ⟨(World.cell?_of_block h).trans q1, (World.cell?_of_block h).trans q2⟩
        have HSW := Lib.hid hs
        have I100 : Hid (i < 100) := Lib.hid (by omega)
        obtain ⟨n0, n1⟩ := NW.out
        obtain ⟨r5, hr5⟩ : ∃ r5, d.t.tmod 50 = r5 := ⟨_, rfl⟩
        have t0 := DF.out.2.2.2.1
        have hr' : d.t % 50 = r5 := by rw [← hr5]; exact (Int.tmod_eq_emod_of_nonneg t0).symm
        have r0 : 0 ≤ r5 := by omega
        have r1 : r5 < 50 := by omega
        obtain ⟨now', hn'⟩ : ∃ now', now + r5 = now' := ⟨_, rfl⟩
        have n1' : now ≤ 5000 := by omega
        have NW' : Hid (0 ≤ now' ∧ now' ≤ 50 * ((i + 1 : Nat) : Int)) := Lib.hid (by omega)
        clear hs hd hlt hlt0 q0 q1 q2 n1 NW hr'
        go_upto_region 14 with fail
        clear hn' hr5 r0 r1 n0 n1' q3 t0
        go_cut [59] (fun v59 wq => v59 = .bool (S.opn && decide (due ≤ now')) ∧ wq = wc)
        case first =>
          obtain ⟨o, ho⟩ : ∃ o, S.opn = o := ⟨_, rfl⟩
          have HO : Hid (Calls Try.prog 51 #[.pointer (some ⟨b, 0, none⟩)] wc fun r w' => r = .returned (.bool o) ∧ wc = w') := Lib.hid (by rw [← ho]; exact open_col b S wc H.out.col.col)
          have HO2 := Lib.hid ho
          clear ho
          go_wp2_with fail
          refine HO.out.mono ?_
          rintro r wz ⟨rfl, hz⟩
          rw [← hz]
          clear hz wz HO
          cases o with
          | false =>
            go_wp2
            go_meet
            exact ⟨by rw [HO2.out]; rfl, rfl⟩
          | true =>
            go_wp2
            go_meet
            exact ⟨by rw [HO2.out]; rfl, rfl⟩
        case rest =>
          obtain ⟨rfl, rfl⟩ := hcut
          obtain ⟨x, hx⟩ : ∃ x, (S.opn && decide (due ≤ now')) = x := ⟨_, rfl⟩
          rw [hx]
          have HX := Lib.hid hx
          clear hx
          go_upto_if 59 with fail
          go_cut [9] (fun v9 wq => ∃ (S1 : CO) (TL1 : List BS) (PL1 : List PB), PN S1 N Wd due CL PL1 i (2 * i + 1) ∧ CH w wq b S1 u8 v9 CL TL1 PL1)
          case first =>
            cases x with
            | false =>
              go_wp2
              go_meet
              exact ⟨S, TL, PL, ⟨P.out.fw, P.out.due, P.out.ids, P.out.lens, P.out.cl, P.out.ml, by have := P.out.pl; omega⟩, H.out⟩
            | true =>
              have hb2 := HX.out
              rw [Bool.and_eq_true] at hb2
              have OPN := Lib.hid hb2.1
              clear hb2
              go_wp2_with fail
              refine (expire_O b S due (GG u8 u9) wc H.out.col).mono ?_
              rw [(P.out.exp OPN.out).1]
              rintro r v1 ⟨A5, n5, c5, M5, m5, d5, rfl, hc, htb, hf⟩
              have hc' : ColO v1 b S.shut (GG u8 u9) := by have := hc; unfold CO.wait at this; rwa [(P.out.exp OPN.out).1] at this
              have H1 := Lib.hid (H.out.turn hf hc' GW.out)
              have TX : Hid (TB v1 (fun j => j = b ∨ GG u8 u9 j) ⟨A5, n5, c5, M5, m5, d5⟩ ⟨S.zs, S.ms⟩) := Lib.hid htb
              clear hc hc' htb hf
              go_upto_region 16 with fail
              have b2 := below_alloc v1 (.cells #[.slice A5 n5 c5, .slice M5 m5 d5] 34)
              have K2 := Lib.hid (heap_alloc_at v1 (.cells #[.slice A5 n5 c5, .slice M5 m5 d5] 34))
              have H2 := Lib.hid (H1.out.below b2)
              have TX2 := Lib.hid (TX.out.grow (F := fun _ => False) (Frm.of_below b2) (fun _ e => e.elim) (fun _ e => .inl e) (G' := fun j => j = b ∨ GG u8 u9 j))
              clear b2 H1 TX
              generalize v1.alloc (.cells #[.slice A5 n5 c5, .slice M5 m5 d5] 34) = v2 at *
              generalize v1.heap.size = g13 at *
              obtain ⟨k0, k1⟩ := bobj_cells K2.out
              have b3 := below_alloc v2 (.cells #[.slice A5 n5 c5, .slice M5 m5 d5] 34)
              have H3 := Lib.hid (H2.out.below b3)
              have TX3 := Lib.hid (TX2.out.grow (F := fun _ => False) (Frm.of_below b3) (fun _ e => e.elim) (fun _ e => .inl e) (G' := fun j => j = b ∨ GG u8 u9 j))
              have SR : Hid (RowR brec (v2.alloc (.cells #[.slice A5 n5 c5, .slice M5 m5 d5] 34)) (some ⟨v2.heap.size, 0, none⟩) 1 [(⟨A5, n5, c5, M5, m5, d5⟩ : BS)]) := Lib.hid (RowR.one (R := brec) v2 ⟨A5, n5, c5, M5, m5, d5⟩ 34 (cs := #[.slice A5 n5 c5, .slice M5 m5 d5]) rfl)
              have LN : Hid (TL.length + 1 ≤ 1048576) := Lib.hid (by have h1 := H.out.all.len; have h2 := P.out.pl; have := I100.out; omega)
              clear b3 H2 TX2
              go_wp2_with (first
                | (at_builtin; refine wpList_appS tBB (base := b + 1) rfl (.tmp 68) (.tmp 70) rfl rfl rfl H3.out.own9 SR.out LN.out H3.out.ltb ?_;
                   intro y9 w9 own gr hor; have H9 := Lib.hid (H3.out.bats gr hor own TX3.out GW.out); clear own gr hor))
              go_meet
              exact ⟨S.shut, _, _, P.out.told OPN.out NB1.out, H9.out⟩
          case rest =>
            obtain ⟨S1, TL1, PL1, hp1, hc1⟩ := hcut
            have P1 := Lib.hid hp1
            have H1 := Lib.hid hc1
            clear hp1 hc1 H P HX
            obtain ⟨q1, _⟩ := HSW.out wc H1.out.low
            have b3 := below_alloc wc (.cells #[.int .i64 d.i] 3)
            have H3 := Lib.hid (H1.out.below b3)
            have SR := Lib.hid (RowR.one (R := irec) wc d.i 3 (cs := #[.int .i64 d.i]) rfl)
            have LN : Hid (CL.length + 1 ≤ 1048576) := Lib.hid (by have h1 := P1.out.cl; have := I100.out; omega)
            clear b3 H1
            go_upto_region 20 with (first
              | (at_builtin; refine wpList_appS tI (base := b + 1) rfl (.tmp 72) (.tmp 78) rfl rfl rfl H3.out.own8 SR.out LN.out H3.out.ltb ?_;
                 intro y8 w6 own gr hor; have H6 := Lib.hid (H3.out.ints gr hor own GW.out); clear own gr hor q1))
            have HS6 : Hid (∀ wx, Frm (· = b) w6 wx → wx.cell? ⟨rb, off + i * 4 + 1, none⟩ = some (.int .i64 d.i) ∧ wx.cell? ⟨rb, off + i * 4 + 2, none⟩ = some (.int .i64 d.x)) := Lib.hid (fun wx hf => HSW.out wx (H6.out.low.trans (hf.below H6.out.low.size (fun j hj e => by have := GW.out; omega))))
            clear H3 SR LN HSW
            go_cut [15] (fun v15 wq => ∃ (g : Nat) (A5 : Option Addr) (n5 c5 : Nat) (M5 : Option Addr) (m5 d5 : Nat), v15 = .pointer (some ⟨g, 0, none⟩) ∧ Told w6 wq b g (S1.next now' d.i d.x) (S1.step now' d.i d.x) A5 n5 c5 M5 m5 d5)
            case first =>
              have CD : Hid (Col w6.drew b S1) := Lib.hid (H6.out.col.col.below (ali_below (drew_ali w6)))
              have LT : Hid (b < w6.drew.heap.size) := Lib.hid H6.out.ltb
              have HADD : Hid (∀ wx, Col wx b S1 → Calls Try.prog 46 #[.pointer (some ⟨b, 0, none⟩), .int .u64 now', .int .i64 d.i, .int .i64 d.x] wx fun r w' => ∃ A n c M m e, r = .returned (stepV (S1.step now' d.i d.x).o (S1.step now' d.i d.x).r (S1.step now' d.i d.x).due A n c M m e) ∧ ColF w' b (S1.next now' d.i d.x) wx.heap.size ∧ Bat w' A n c M m e (S1.step now' d.i d.x).zs (S1.step now' d.i d.x).ms ∧ Fresh wx.heap.size A ∧ Fresh wx.heap.size M ∧ Frm (· = b) wx w') :=
                Lib.hid (fun wx h => add_told b S1 now' d.i d.x wx h DF.out.2.1 (by have h1 := P1.out.fw.lt; have := NB4.out; omega) (by have := P1.out.ml; have := I100.out; omega) (by rw [P1.out.fw.win]; have := WB.out; omega) (by rw [P1.out.fw.win]; have := WB.out; omega) NW'.out.1 (by have := NW'.out; have := I100.out; omega))
              have FW : Hid (Frm (· = b) w6 w6.drew) := Lib.hid (Frm.of_ali (drew_ali w6))
              have HS : Hid (∀ wx, Frm (· = b) w6.drew wx → wx.cell? ⟨rb, off + i * 4 + 1, none⟩ = some (.int .i64 d.i) ∧ wx.cell? ⟨rb, off + i * 4 + 2, none⟩ = some (.int .i64 d.x)) := Lib.hid (fun wx hf => HS6.out wx (FW.out.trans hf (fun _ _ e => e)))
              clear HS6 H6 P1 HR HF DF G
              refine wp_region_held_drew (S := fun wx => wx.cell? ⟨rb, off + i * 4 + 1, none⟩ = some (.int .i64 d.i) ∧ wx.cell? ⟨rb, off + i * 4 + 2, none⟩ = some (.int .i64 d.x)) (by kernel_rfl) (HS.out _ (Frm.refl _ _)) (fun hHeld => ?_)
              generalize w6.drew = wd at *
              refine wpAnyH_take (i := 0) (oi := ⟨_, _, _, _, _, _⟩) (v := ?_) rfl (by kernel_rfl) (by kernel_rfl) (by kernel_rfl) (fun _ _ _ h => h) (Or.inl ⟨by rfl, ?_⟩) (by assumption) ?_
              rotate_left
              · intro w hSw; (try dsimp only at hSw); go_simp; try (with_reducible rfl)
              try go_frame
              refine wpAnyH_take (i := 1) (oi := ⟨_, _, _, _, _, _⟩) (v := ?_) rfl (by kernel_rfl) (by kernel_rfl) (by kernel_rfl) (fun _ _ _ h => h) (Or.inl ⟨by rfl, ?_⟩) (by assumption) ?_
              rotate_left
              · intro w hSw; (try dsimp only at hSw); go_simp; try (with_reducible rfl)
              try go_frame
              refine wpAnyH_take (i := 2) (oi := ⟨_, _, _, _, _, _⟩) (v := ?_) rfl (by kernel_rfl) (by kernel_rfl) (by kernel_rfl) (fun _ _ _ h => h) (Or.inl ⟨by rfl, ?_⟩) (by assumption) ?_
              rotate_left
              · intro w hSw; (try dsimp only at hSw); go_simp; try (with_reducible rfl)
              try go_frame
              refine wpAnyH_take (i := 3) (oi := ⟨_, _, _, _, _, _⟩) (v := ?_) rfl (by kernel_rfl) (by kernel_rfl) (by kernel_rfl) (fun _ _ _ h => h) (Or.inl ⟨by rfl, ?_⟩) (by assumption) ?_
              rotate_left
              · intro w hSw; (try dsimp only at hSw); go_simp; try (with_reducible rfl)
              try go_frame
              refine wpAnyH_take (i := 4) (oi := ⟨_, _, _, _, _, _⟩) (v := ?_) rfl (by kernel_rfl) (by kernel_rfl) (by kernel_rfl) (fun _ _ _ h => h) (Or.inl ⟨by rfl, ?_⟩) (by assumption) ?_
              rotate_left
              · intro w hSw; (try dsimp only at hSw); go_simp; try (with_reducible rfl)
              try go_frame
              refine wpAnyH_take (i := 5) (oi := ⟨_, _, _, _, _, _⟩) (v := ?_) rfl (by kernel_rfl) (by kernel_rfl) (by kernel_rfl) (fun _ _ _ h => h) (Or.inl ⟨by rfl, ?_⟩) (by assumption) ?_
              rotate_left
              · intro w hSw; (try dsimp only at hSw); go_simp; try (with_reducible rfl)
              try go_frame
              refine wpAnyH_take (i := 6) (oi := ⟨_, _, _, _, _, _⟩) (v := ?_) rfl (by kernel_rfl) (by kernel_rfl) (by kernel_rfl) (fun _ _ _ h => h) (Or.inl ⟨by rfl, ?_⟩) (by assumption) ?_
              rotate_left
              · intro w hSw; (try dsimp only at hSw); go_simp; try (with_reducible rfl)
              try go_frame
              refine wpAnyH_take (i := 7) (oi := ⟨_, _, _, _, _, _⟩) (v := ?_) rfl (by kernel_rfl) (by kernel_rfl) (by kernel_rfl) (fun _ _ _ h => h) (Or.inl ⟨by rfl, ?_⟩) (by assumption) ?_
              rotate_left
              · intro w hSw; (try dsimp only at hSw); go_simp; try (with_reducible rfl)
              try go_frame
              refine wpAnyH_take (i := 8) (oi := ⟨_, _, _, _, _, _⟩) (v := ?_) rfl (by kernel_rfl) (by kernel_rfl) (by kernel_rfl) (fun _ _ _ h => h) (Or.inl ⟨by rfl, ?_⟩) (by assumption) ?_
              rotate_left
              · intro w hSw; (try dsimp only at hSw); go_simp; try (with_reducible rfl)
              try go_frame
              refine wpAnyH_take (i := 9) (oi := ⟨_, _, _, _, _, _⟩) (v := ?_) rfl (by kernel_rfl) (by kernel_rfl) (by kernel_rfl) (fun _ _ _ h => h) (Or.inl ⟨by rfl, ?_⟩) (by assumption) ?_
              rotate_left
              · intro w hSw; (try dsimp only at hSw); go_simp; try (with_reducible rfl)
              try go_frame
              refine wpAnyH_take (i := 10) (oi := ⟨_, _, _, _, _, _⟩) (v := ?_) rfl (by kernel_rfl) (by kernel_rfl) (by kernel_rfl) (fun _ _ _ h => h) (Or.inl ⟨by rfl, ?_⟩) (by assumption) ?_
              rotate_left
              · intro w hSw; (try dsimp only at hSw); go_simp; try (with_reducible rfl)
              try go_frame
              refine wpAnyH_take (i := 11) (oi := ⟨_, _, _, _, _, _⟩) (v := ?_) rfl (by kernel_rfl) (by kernel_rfl) (by kernel_rfl) (fun _ _ _ h => h) (Or.inl ⟨by rfl, ?_⟩) (by assumption) ?_
              rotate_left
              · intro w hSw; (try dsimp only at hSw); go_simp; try (with_reducible rfl)
              try go_frame
              refine wpAnyH_ready (rs := [12, 13]) (by kernel_rfl) (by simp) ?_
              refine ready_cons (i := 12) (o := ⟨_, _, _, _, _, _⟩) rfl ?_ (ready_cons (i := 13) (o := ⟨_, _, _, _, _, _⟩) rfl ?_ AllReadyH.nil)
              · intro K hK
                refine call_step (f := 46) (args := #[.pointer (some ⟨b, 0, none⟩), .int .u64 now', .int .i64 d.i, .int .i64 d.x]) rfl (by kernel_rfl) ?_
                refine (HADD.out wd CD.out).mono ?_
                rintro r w5 ⟨A5, n5, c5, M5, m5, d5, rfl, h5, b5, p5, q5, f5⟩
                refine ⟨_, rfl, ?_⟩
                have F5 := Lib.hid f5
                have C5 := Lib.hid h5
                have B5 := Lib.hid b5
                have P5 := Lib.hid p5
                have Q5 := Lib.hid q5
                refine hK.out _ _ (HS.out _ F5.out) (fun hHeld => ?_)
                clear hK K h5 b5 p5 q5 f5
                try go_frame
                refine wpAnyH_ready (rs := [13]) (by kernel_rfl) (by simp) ?_
                refine ready_cons (i := 13) (o := ⟨_, _, _, _, _, _⟩) rfl ?_ AllReadyH.nil
                intro K hK
                constructor
                go_simp
                have F6 : Hid (Frm (· = b) wd (w5.alloc (.cells #[.bool false, .bool false, .int .u64 0, .slice none 0 0, .slice none 0 0] 93))) := Lib.hid (F5.out.then_below (below_alloc w5 _))
                have K6 : Hid ((w5.alloc (.cells #[.bool false, .bool false, .int .u64 0, .slice none 0 0, .slice none 0 0] 93)).heap[w5.heap.size]? = some (sobj false false 0 none 0 0 none 0 0)) := Lib.hid (heap_alloc_at w5 _)
                have C6 : Hid (ColF (w5.alloc (.cells #[.bool false, .bool false, .int .u64 0, .slice none 0 0, .slice none 0 0] 93)) b (S1.next now' d.i d.x) wd.heap.size) := Lib.hid (C5.out.below (below_alloc w5 _))
                have B6 : Hid (Bat (w5.alloc (.cells #[.bool false, .bool false, .int .u64 0, .slice none 0 0, .slice none 0 0] 93)) A5 n5 c5 M5 m5 d5 (S1.step now' d.i d.x).zs (S1.step now' d.i d.x).ms) := Lib.hid (B5.out.below (below_alloc w5 _))
                have NG : Hid (w5.heap.size ≠ b) := Lib.hid (by have := LT.out; have := F5.out.size; omega)
                have GG' : Hid (wd.heap.size ≤ w5.heap.size) := Lib.hid F5.out.size
                refine hK.out _ _ (HS.out _ F6.out) (fun hHeld => ?_)
                clear hK K F5 C5 B5
                generalize w5.alloc (.cells #[.bool false, .bool false, .int .u64 0, .slice none 0 0, .slice none 0 0] 93) = w6 at *
                generalize w5.heap.size = g at *
                have F5 := F6
                have C5 := C6
                have B5 := B6
                clear F6 C6 B6
                try go_frame
                refine wpAnyH_ready (rs := [14]) (by kernel_rfl) (by simp) ?_
                refine ready_cons (i := 14) (o := ⟨_, _, _, _, _, _⟩) rfl ?_ AllReadyH.nil
                intro K hK
                refine store_step rfl 93 _ _ rfl g 0 93 (svals false false 0 none 0 0 none 0 0) (svals (S1.step now' d.i d.x).o (S1.step now' d.i d.x).r (S1.step now' d.i d.x).due A5 n5 c5 M5 m5 d5) rfl rfl K6.out (Nat.le_refl _) sizeS (onesS _ _ _ _ _ _ _ _ _) ?_
                intro w7 k7 f7 _
                have told := told_put C5.out B5.out P5.out Q5.out F5.out K6.out GG'.out (fun e => NG.out e.symm) k7 f7
                refine hK.out _ _ (HS.out _ told.frm) (fun hHeld => ?_)
                clear hK K k7 f7
                try go_frame
                refine wpAnyH_done (by kernel_rfl) ?_ _
                go_wp2
                go_meet
                exact ⟨g, A5, n5, c5, M5, m5, d5, rfl, told.from FW.out⟩
              · intro K hK
                constructor
                go_simp
                have F6 : Hid (Frm (· = b) wd (wd.alloc (.cells #[.bool false, .bool false, .int .u64 0, .slice none 0 0, .slice none 0 0] 93))) := Lib.hid (Frm.of_below (below_alloc wd _))
                have K0 : Hid ((wd.alloc (.cells #[.bool false, .bool false, .int .u64 0, .slice none 0 0, .slice none 0 0] 93)).heap[wd.heap.size]? = some (sobj false false 0 none 0 0 none 0 0)) := Lib.hid (heap_alloc_at wd _)
                have C6 : Hid (Col (wd.alloc (.cells #[.bool false, .bool false, .int .u64 0, .slice none 0 0, .slice none 0 0] 93)) b S1) := Lib.hid (CD.out.below (below_alloc wd _))
                have NG : Hid (wd.heap.size ≠ b) := Lib.hid (by have := LT.out; omega)
                have GG : Hid (wd.heap.size ≤ wd.heap.size) := Lib.hid (Nat.le_refl _)
                refine hK.out _ _ (HS.out _ F6.out) (fun hHeld => ?_)
                clear hK K
                generalize wd.alloc (.cells #[.bool false, .bool false, .int .u64 0, .slice none 0 0, .slice none 0 0] 93) = w6 at *
                obtain ⟨g, hg⟩ : ∃ g, wd.heap.size = g := ⟨_, rfl⟩
                rw [hg] at K0 NG
                have GG' : Hid (wd.heap.size ≤ g) := Lib.hid (Nat.le_of_eq hg)
                try rw [hg]
                clear hg GG
                try go_frame
                refine wpAnyH_ready (rs := [12]) (by kernel_rfl) (by simp) ?_
                refine ready_cons (i := 12) (o := ⟨_, _, _, _, _, _⟩) rfl ?_ AllReadyH.nil
                intro K hK
                refine call_step (f := 46) (args := #[.pointer (some ⟨b, 0, none⟩), .int .u64 now', .int .i64 d.i, .int .i64 d.x]) rfl (by kernel_rfl) ?_
                refine (HADD.out w6 C6.out).mono ?_
                rintro r w5 ⟨A5, n5, c5, M5, m5, d5, rfl, h5, b5, p5, q5, f5⟩
                refine ⟨_, rfl, ?_⟩
                have K6 := Lib.hid (carry f5 K0.out NG.out)
                have F5 := Lib.hid (F6.out.trans f5 (fun _ _ e => e))
                have C5 := Lib.hid (h5.mono F6.out.size)
                have B5 := Lib.hid b5
                have P5 := Lib.hid (p5.mono F6.out.size)
                have Q5 := Lib.hid (q5.mono F6.out.size)
                refine hK.out _ _ (HS.out _ F5.out) (fun hHeld => ?_)
                clear hK K h5 b5 p5 q5 f5 F6 K0 C6
                try go_frame
                refine wpAnyH_ready (rs := [14]) (by kernel_rfl) (by simp) ?_
                refine ready_cons (i := 14) (o := ⟨_, _, _, _, _, _⟩) rfl ?_ AllReadyH.nil
                intro K hK
                refine store_step rfl 93 _ _ rfl g 0 93 (svals false false 0 none 0 0 none 0 0) (svals (S1.step now' d.i d.x).o (S1.step now' d.i d.x).r (S1.step now' d.i d.x).due A5 n5 c5 M5 m5 d5) rfl rfl K6.out (Nat.le_refl _) sizeS (onesS _ _ _ _ _ _ _ _ _) ?_
                intro w7 k7 f7 _
                have told := told_put C5.out B5.out P5.out Q5.out F5.out K6.out GG'.out (fun e => NG.out e.symm) k7 f7
                refine hK.out _ _ (HS.out _ told.frm) (fun hHeld => ?_)
                clear hK K k7 f7
                try go_frame
                refine wpAnyH_done (by kernel_rfl) ?_ _
                go_wp2
                go_meet
                exact ⟨g, A5, n5, c5, M5, m5, d5, rfl, told.from FW.out⟩
            case rest =>
              obtain ⟨g, A5, n5, c5, M5, m5, d5, rfl, ht⟩ := hcut
              obtain ⟨o, ho⟩ : ∃ o, S1.opn = o := ⟨_, rfl⟩
              obtain ⟨y, hy⟩ : ∃ y, S1.full1 d.x = y := ⟨_, rfl⟩
              obtain ⟨u, hu⟩ : ∃ u, (S1.step now' d.i d.x).due = u := ⟨_, rfl⟩
              have kt : wc.heap[g]? = some (sobj (!o) y u A5 n5 c5 M5 m5 d5) := by rw [← ho, ← hy, ← hu]; exact ht.blk
              have KT := Lib.hid kt
              have H7 := Lib.hid (H6.out.turn ht.frm (ht.col.offs (fun j hj => (H6.out.lt8 hj).2)) GW.out)
              have TX : Hid (TB wc (fun j => j = b ∨ GG y8 u9 j) ⟨A5, n5, c5, M5, m5, d5⟩ ⟨(S1.step now' d.i d.x).zs, (S1.step now' d.i d.x).ms⟩) := Lib.hid ⟨ht.bat, ht.frA.offB (fun j hj => by rcases hj with hj | hj; have := H6.out.ltb; omega; exact (H6.out.lt8 hj).2) _, ht.frM.offB (fun j hj => by rcases hj with hj | hj; have := H6.out.ltb; omega; exact (H6.out.lt8 hj).2) _⟩
              have x0 : wc.cell? ⟨g, 0, none⟩ = some (.bool (!o)) := vobj_cell kt rfl
              have x1 : wc.cell? ⟨g, 1, none⟩ = some (.bool y) := vobj_cell kt rfl
              have x2 : wc.cell? ⟨g, 2, none⟩ = some (.int .u64 u) := vobj_cell kt rfl
              have x3 : wc.cell? ⟨g, 3, none⟩ = some (.slice A5 n5 c5) := vobj_cell kt rfl
              have x4 : wc.cell? ⟨g, 4, none⟩ = some (.slice M5 m5 d5) := vobj_cell kt rfl
              have HY := Lib.hid hy
              have HO := Lib.hid ho
              have HU := Lib.hid hu
              clear ht kt H6 HS6 ho hy hu
              cases y with
              | false =>
                have PM := Lib.hid (P1.out.more NB1.out now' d.i d.x NW'.out.1 (by have := WB.out; omega) HY.out)
                clear KT TX
                cases o with
                | true =>
                  go_wp2
                  go_roundg (n - (i + 1))
                  case measure => have := G.out; omega
                  case rel =>
                    have h1 := PM.out
                    rw [HO.out, if_pos rfl] at h1
                    exact ⟨i + 1, now', due, _, _, _, _, by omega, by simp, rfl, rfl, NW'.out, ⟨h1.fw, h1.due, h1.ids, h1.lens, h1.cl, h1.ml, by have := h1.pl; omega⟩, H7.out⟩
                | false =>
                  go_wp2
                  go_roundg (n - (i + 1))
                  case measure => have := G.out; omega
                  case rel =>
                    have h1 := PM.out
                    rw [HO.out, if_neg (by decide), HU.out] at h1
                    exact ⟨i + 1, now', u, _, _, _, _, by omega, by simp, rfl, rfl, NW'.out, ⟨h1.fw, h1.due, h1.ids, h1.lens, h1.cl, h1.ml, by have := h1.pl; omega⟩, H7.out⟩
              | true =>
                have b3 := below_alloc wc (.cells #[.slice A5 n5 c5, .slice M5 m5 d5] 34)
                have H8 := Lib.hid (H7.out.below b3)
                have TX3 := Lib.hid (TX.out.grow (F := fun _ => False) (Frm.of_below b3) (fun _ e => e.elim) (fun _ e => .inl e) (G' := fun j => j = b ∨ GG y8 u9 j))
                have SR : Hid (RowR brec (wc.alloc (.cells #[.slice A5 n5 c5, .slice M5 m5 d5] 34)) (some ⟨wc.heap.size, 0, none⟩) 1 [(⟨A5, n5, c5, M5, m5, d5⟩ : BS)]) := Lib.hid (RowR.one (R := brec) wc ⟨A5, n5, c5, M5, m5, d5⟩ 34 (cs := #[.slice A5 n5 c5, .slice M5 m5 d5]) rfl)
                have LN : Hid (TL1.length + 1 ≤ 1048576) := Lib.hid (by have h1 := H7.out.all.len; have h2 := P1.out.pl; have := I100.out; omega)
                clear b3 KT TX
                cases o with
                | true =>
                  go_wp2_with (first
                    | (at_builtin; refine wpList_appS tBB (base := b + 1) rfl (.tmp 99) (.tmp 102) rfl rfl rfl H8.out.own9 SR.out LN.out H8.out.ltb ?_;
                       intro y9 w9 own gr hor; have H9 := Lib.hid (H8.out.bats gr hor own TX3.out GW.out); clear own gr hor x0 x1 x2 x3 x4))
                  go_roundg (n - (i + 1))
                  case measure => have := G.out; omega
                  case rel =>
                    have h1 := P1.out.full NB1.out now' d.i d.x due HY.out
                    exact ⟨i + 1, now', due, _, _, _, _, by omega, by simp, rfl, rfl, NW'.out, ⟨h1.fw, h1.due, h1.ids, h1.lens, h1.cl, h1.ml, by have := h1.pl; omega⟩, H9.out⟩
                | false =>
                  go_wp2_with (first
                    | (at_builtin; refine wpList_appS tBB (base := b + 1) rfl (.tmp 99) (.tmp 102) rfl rfl rfl H8.out.own9 SR.out LN.out H8.out.ltb ?_;
                       intro y9 w9 own gr hor; have H9 := Lib.hid (H8.out.bats gr hor own TX3.out GW.out); clear own gr hor x0 x1 x2 x3 x4))
                  go_roundg (n - (i + 1))
                  case measure => have := G.out; omega
                  case rel =>
                    have h1 := P1.out.full NB1.out now' d.i d.x u HY.out
                    exact ⟨i + 1, now', u, _, _, _, _, by omega, by simp, rfl, rfl, NW'.out, ⟨h1.fw, h1.due, h1.ids, h1.lens, h1.cl, h1.ml, by have := h1.pl; omega⟩, H9.out⟩
      · rw [decide_eq_false hin]
        obtain ⟨o, ho⟩ : ∃ o, S.opn = o := ⟨_, rfl⟩
        have he : S.exp 18446744073709551615 = o := by
          cases o with
          | true => exact (P.out.exp ho).2
          | false => unfold CO.exp; rw [ho]; rfl
        have HE := Lib.hid he
        have HO := Lib.hid ho
        have EX : Hid (Calls Try.prog 49 #[.pointer (some ⟨b, 0, none⟩), .int .u64 18446744073709551615] wc fun r w' => ∃ A n c M m d, r = .returned (.tuple #[batV A n c M m d, .bool o]) ∧ ColO w' b (S.wait 18446744073709551615) (GG u8 u9) ∧ TB w' (fun j => j = b ∨ GG u8 u9 j) ⟨A, n, c, M, m, d⟩ ⟨if o then S.zs else [], if o then S.ms else []⟩ ∧ Frm (· = b) wc w') := Lib.hid (by
          have := expire_O b S 18446744073709551615 (GG u8 u9) wc H.out.col
          rwa [he] at this)
        clear he ho hin NW
        go_wp2_with fail
        refine EX.out.mono ?_
        rintro r v1 ⟨A5, n5, c5, M5, m5, d5, rfl, hc, htb, hf⟩
        have H1 := Lib.hid (H.out.turn hf hc GW.out)
        have TX := Lib.hid htb
        clear hc htb hf EX
        go_upto_region 26 with fail
        have b2 := below_alloc v1 (.cells #[.slice A5 n5 c5, .slice M5 m5 d5] 34)
        have K2 := Lib.hid (heap_alloc_at v1 (.cells #[.slice A5 n5 c5, .slice M5 m5 d5] 34))
        have H2 := Lib.hid (H1.out.below b2)
        have TX2 := Lib.hid (TX.out.grow (F := fun _ => False) (Frm.of_below b2) (fun _ e => e.elim) (fun _ e => .inl e) (G' := fun j => j = b ∨ GG u8 u9 j))
        have NL : Hid (PL.length ≤ 200) := Lib.hid (by have := P.out.pl; have := G.out; omega)
        clear b2 H1 TX
        generalize v1.alloc (.cells #[.slice A5 n5 c5, .slice M5 m5 d5] 34) = v2 at *
        generalize v1.heap.size = g16 at *
        go_upto_if 109 with fail
        go_cut [9] (fun v9 wq => ∃ (TL1 : List BS) (PL1 : List PB), CL = idsP PL1 ∧ (∀ p ∈ PL1, 1 ≤ p.zs.length ∧ (p.zs.length : Int) ≤ N) ∧ CH w wq b (S.wait 18446744073709551615) u8 v9 CL TL1 PL1)
        case first =>
          cases o with
          | false =>
            go_wp2
            go_meet
            refine ⟨TL, PL, ?_, P.out.lens, H2.out⟩
            have hm : S.ms = [] := by
              have h1 := HO.out
              unfold CO.opn at h1
              cases hm : S.ms with
              | nil => rfl
              | cons _ _ => rw [hm] at h1; cases h1
            have h2 := P.out.ids
            rw [hm] at h2
            simpa using h2
          | true =>
            obtain ⟨k0, k1⟩ := bobj_cells K2.out
            have b3 := below_alloc v2 (.cells #[.slice A5 n5 c5, .slice M5 m5 d5] 34)
            have H3 := Lib.hid (H2.out.below b3)
            have TX3 := Lib.hid (TX2.out.grow (F := fun _ => False) (Frm.of_below b3) (fun _ e => e.elim) (fun _ e => .inl e) (G' := fun j => j = b ∨ GG u8 u9 j))
            have SR : Hid (RowR brec (v2.alloc (.cells #[.slice A5 n5 c5, .slice M5 m5 d5] 34)) (some ⟨v2.heap.size, 0, none⟩) 1 [(⟨A5, n5, c5, M5, m5, d5⟩ : BS)]) := Lib.hid (RowR.one (R := brec) v2 ⟨A5, n5, c5, M5, m5, d5⟩ 34 (cs := #[.slice A5 n5 c5, .slice M5 m5 d5]) rfl)
            have LN : Hid (TL.length + 1 ≤ 1048576) := Lib.hid (by have h1 := H2.out.all.len; have h2 := NL.out; omega)
            clear b3 H2 TX2
            go_wp2_with (first
              | (at_builtin; refine wpList_appS tBB (base := b + 1) rfl (.tmp 110) (.tmp 112) rfl rfl rfl H3.out.own9 SR.out LN.out H3.out.ltb ?_;
                 intro y9 w9 own gr hor; have H9 := Lib.hid (H3.out.bats gr hor own TX3.out GW.out); clear own gr hor))
            go_meet
            have hp := P.out.told HO.out NB1.out
            refine ⟨_, _, ?_, hp.lens, H9.out⟩
            have h2 := hp.ids
            simpa [CO.shut] using h2
        case rest =>
          obtain ⟨TL1, PL1, hids, hlens, hch⟩ := hcut
          have IDS := Lib.hid hids
          have LENS := Lib.hid hlens
          have H9 := Lib.hid hch
          have WO := Lib.hid (wait_opn S 18446744073709551615 (HE.out.trans HO.out.symm))
          obtain ⟨A8, n8, c8, h8e, r8, hn8, _, _⟩ := hch.own8.row'
          obtain ⟨A9, n9, c9, h9e, r9, hn9, _, _⟩ := hch.own9.row'
          subst h8e h9e
          have R8 := Lib.hid r8
          have R9 := Lib.hid r9
          have m8 := r8.2.1
          have m9 := r9.2.1
          unfold maxLen at m8 m9
          clear hids hlens hch r8 r9 H H2 TX2 K2 HE HO NL P G HR HF hn1 hn2 hn3 hml
          go_wp2
          go_loopg [18, 19] n9 (fun q v18 v19 wr => ∃ i a : Nat, i + q = n9 ∧ v19 = .int .i64 i ∧ v18 = .int .i64 a ∧ a = (idsP (PL1.take i)).length ∧ Below wc.heap.size wc wr)
          case atStart => exact ⟨0, 0, by omega, rfl, rfl, by simp [idsP], Below.refl _ _⟩
          case round =>
            obtain ⟨i2, a, hq, rfl, rfl, ha, hl⟩ := hrel
            have GQ := Lib.hid hq
            have HA := Lib.hid ha
            have LW := Lib.hid hl
            clear hq ha
            by_cases hin : i2 < n9
            · have hi1 : (i2 : Int) < (n9 : Int) := by omega
              obtain ⟨tb, tq, x, hA9, hx, k0, k1⟩ := (R9.out.later hl).bat_at hin
              subst hA9
              obtain ⟨p, hp, htb⟩ := H9.out.all.at_ hx
              have hle := LENS.out p (List.mem_of_getElem? hp)
              have hal := htb.bat.alen
              have hx1 : ¬ (x.n : Int) < 1 := by omega
              have hx2 : ¬ N < (x.n : Int) := by omega
              have HP := Lib.hid hp
              have HT := Lib.hid htb
              have hmx := htb.bat.mr.2.1
              unfold maxLen at hmx
              have HX := Lib.hid hx
              clear hp htb hle hal hl hx
              go_wp2
              go_loopg [18, 20] x.m (fun q v18 v20 wx => ∃ k a2 : Nat, k + q = x.m ∧ v20 = .int .i64 k ∧ v18 = .int .i64 a2 ∧ a2 = a + k ∧ Below wr.heap.size wr wx)
              case atStart => exact ⟨0, a, by omega, rfl, rfl, rfl, Below.refl _ _⟩
              case round =>
                obtain ⟨k, a2, hk, rfl, rfl, ha2, hx⟩ := hrel
                have GK := Lib.hid hk
                have HA2 := Lib.hid ha2
                have LX := Lib.hid hx
                have j1 := (World.cell?_of_block (hx.block _ (cell_lt k1))).trans k1
                have low2 : Below wc.heap.size wc wr := LW.out.trans (hx.mono LW.out.size)
                have LO2 := Lib.hid low2
                clear hk ha2
                by_cases hkm : k < x.m
                · have hk1 : (k : Int) < (x.m : Int) := by omega
                  obtain ⟨mb, mo, z, hM, hz, c0, _⟩ := (HT.out.bat.mr.later low2).pair_at hkm
                  have hat := idsP_at HP.out hz
                  rw [← HA.out, ← HA2.out, ← IDS.out] at hat
                  have hlt8 : a2 < n8 := by have h1 := (List.getElem?_eq_some_iff.1 hat).1; have := hn8.out; omega
                  obtain ⟨cb, co, z', hA8, hz', e0⟩ := (R8.out.later low2).int_at hlt8
                  subst hA8
                  obtain rfl : z.a = z' := Option.some.inj (hat.symm.trans hz')
                  have h81 : (a2 : Int) < (n8 : Int) := by omega
                  have h82 : decide (n8 ≤ a2) = false := decide_eq_false (by omega)
                  have h83 : decide ((n8 : Int) ≤ (a2 : Int)) = false := decide_eq_false (by omega)
                  rw [hM] at j1
                  have F0 : ∀ u : Later wr, u.v.cell? ⟨tb, tq + i2 * 2 + 1, none⟩ = some (.slice (some ⟨mb, mo, none⟩) x.m x.d) := fun u => u.cell j1
                  have F1 : ∀ u : Later wr, u.v.cell? ⟨mb, mo + k * 2, none⟩ = some (.int .i64 z.a) := fun u => u.cell c0
                  have F2 : ∀ u : Later wr, u.v.cell? ⟨cb, co + a2, none⟩ = some (.int .i64 z.a) := fun u => u.cell e0
                  clear hx low2 hz hat hz' c0 e0 hM
                  go_wp2
                  refine wp_region_later (by kernel_rfl) (by kernel_rfl) ?_
                  repeat go_big_quiet_step (fail)
                  refine wpQuiet_nil ?_
                  rintro w10 ⟨⟨_, b10⟩, rfl⟩
                  have B10 := Lib.hid b10
                  clear b10 F0 F1 F2 j1
                  go_wp2
                  go_roundg (x.m - (k + 1))
                  case measure => have := GK.out; omega
                  case rel => exact ⟨k + 1, a2 + 1, by omega, by simp, by simp, by have := HA2.out; omega, LX.out.trans (B10.out.mono LX.out.size)⟩
                · have hk1 : ¬ (k : Int) < (x.m : Int) := by omega
                  have hkx : k = x.m := by have := GK.out; omega
                  have HKX := Lib.hid hkx
                  clear hx low2 hkx
                  go_wp2
                  go_roundg (n9 - (i2 + 1))
                  case measure => have := GQ.out; omega
                  case rel =>
                    refine ⟨i2 + 1, a2, by omega, by simp, rfl, ?_, LO2.out⟩
                    rw [idsP_take HP.out, List.length_append, List.length_map, ← HA.out, HA2.out, HKX.out, HT.out.bat.mlen]
            · have hi1 : ¬ (i2 : Int) < (n9 : Int) := by omega
              have hi9 : i2 = n9 := by have := GQ.out; omega
              have ha8 : a = n8 := by
                have h1 := HA.out
                have h2 := H9.out.all.len
                rw [List.take_of_length_le (by have := hn9.out; omega), ← IDS.out] at h1
                have := hn8.out
                omega
              subst ha8
              have HOP := Lib.hid (open_col b (S.wait 18446744073709551615) wr (H9.out.col.col.below hl))
              have L9 := Lib.hid (H9.out.low.trans (hl.mono H9.out.low.size))
              clear hl
              go_wp2_with (first
                | (go_at_call 51; refine HOP.out.mono ?_; rw [WO.out]; rintro r wq ⟨rfl, hz⟩; rw [← hz]; clear hz wq))
              go_ret
              exact ⟨rfl, L9.out⟩

set_option maxRecDepth 100000 in
theorem lifted (os : Os) (started : os.Started) (H : Type) (enc : TypeId × Value → H) :
    ReturnsInHanded {} Try.checked os 11 .any (Rows.collOnceSpec.pre6 enc Try.prog Try.f11 Rows.collOnceRow.domain false) (Rows.collOnceSpec.post enc Try.prog Try.f11 false true false false) := by
  refine returnsInHanded_of_change_sized (C := Try.checked) own started (by kernel_rfl) Try.func11
    (ChangeSpec.witness6 (enc := enc) (C := Try.checked) false ⟨#[], #[.agg #[.int .u8 0, .int .u8 0], .slice none 0 0], []⟩ 8 (by kernel_rfl) (by kernel_rfl) (by kernel_rfl) (by kernel_rfl)) ?_
  intro W base args ds gs before hval0 hW hcnd hsz0 _
  have hval : ∀ (j : Nat) t v, Try.f11.params[j]? = some t → args[j]? = some v → Value.okWide Try.prog W .any base t v := hval0
  have hsz : (DataW.weightsEach Try.prog (Try.f11.params.toList ++ Rows.collOnceSpec.plain.varTypes Try.prog) (ds ++ gs)).all (· ≤ reachBytes) = true := hsz0
  have hW' := hW
  obtain ⟨p, q, hA0, hV, rfl, hfz, hnd⟩ := hW
  have hA : DataW.TrodAll enc Try.prog W 0 (fun _ => true) true Try.f11.params.toList args.toList ds p := hA0
  rw [Try.params11] at hA hval hsz
  have hAk := hA
  obtain ⟨v0, vs0, d0, ds0, p0, q0, hargs, rfl, rfl, h0, r0⟩ := trodAll_cons hA
  obtain ⟨v1, vs1, d1, ds1, p1, q1, rfl, rfl, rfl, h1, r1⟩ := trodAll_cons r0
  obtain ⟨rfl, rfl, rfl⟩ := trodAll_nil r1
  obtain rfl : args = #[v0, v1] := by cases args; simp_all
  obtain ⟨rfl, rfl⟩ := trodVars_none hV
  obtain ⟨c0, rfl, w0⟩ := open_flat (ks := [.int .u8, .int .u8]) 8 (by kernel_rfl) (by kernel_rfl) (hval 0 103 v0 rfl rfl) h0
  obtain ⟨a1, l1, k1, L1, rfl, w1⟩ := open_slice_flat (ks := [.int .i64, .int .i64, .int .i64, .int .u64]) (bytes := 32) 8 Try.underlying82 (by kernel_rfl) (by kernel_rfl) (by decide) (by kernel_rfl) (hval 1 82 v1 rfl rfl) h1 (fun elems rest hd => by subst hd; exact sized_slice hsz (j := 1) (t := 82) (e := 91) rfl rfl Try.underlying82)
  clear hA0 hval0 hsz0
  refine (walk W c0 w0 a1 l1 k1 L1 w1).mono fun e W' ⟨he, bel⟩ => ?_
  subst he
  exact ⟨_, rfl, _, _, _, [], _, [], hW', trodAll_mk1 (shut_bool Try.underlying4 _), trodAll_below laidOut bel _ _ _ _ (by kernel_rfl) hAk, rfl, bel.frame _, fun h => by cases h⟩

theorem over : Rows.collOnceRow.holds Try.pinned (OpenSpec.ofChange Rows.collOnceSpec) :=
  OpenClaim.holds_of_wide 11 Try.f11 rfl rfl rfl rfl rfl rfl rfl ⟨rfl, rfl, rfl, rfl, rfl⟩ rfl rfl rfl rfl rfl (by kernel_rfl) Try.func11 (by kernel_rfl)
    (of_decide_eq_true (by kernel_rfl)) (by unfold Func.isWrapper; first | (rw [if_pos (by decide +kernel)]; kernel_rfl) | (rw [if_neg (by decide +kernel)]; exact ⟨rfl, rfl⟩))
    (fun os started H enc _ => lifted os started H enc)

theorem proved : Rows.CollOnceSaid := over
#print axioms proved
end Go.Proofs.Ytpfmjocpgnoepaa.collOnce
