/- What is proved: WheelCancels of porpoiselaw03 answers true for every input, and leaves its arguments as they were; conditions: those of the given row alone. -/
import Derived.Test.YtgpebbopggmgbaaKit
import Derived.Test.YtgpebbopggmgbaaTwo03
namespace Go.Proofs.Ytgpebbopggmgbaa.wheelCancels
open Go.ChangeShapes Go.WideShapes Go.ChangeAt Go.RowKit Go.Deep
open Go.ChangeMaps (open_string shut_string)
set_option linter.unusedVariables false

theorem own : ownKnob Try.prog.godebug = none := by kernel_rfl
theorem laidOut : laidOutB Try.prog = true := by kernel_rfl

theorem diffT (k i k' i' : Int) (hk : wf64 k) (hi : wf64 i) (hk' : wf64 k') (hi' : wf64 i') (hne : i ≠ i') (w : World) : (Op.equalIn 10000 25 (.agg #[.int .i64 k, .int .i64 i]) (.agg #[.int .i64 k', .int .i64 i'])).run Try.prog w = .ok false w :=
  same_no (P := Try.prog) (t := 25) 8 (by decide) (by kernel_rfl) (by kernel_rfl) (by kernel_rfl) (by kernel_rfl) (xs := #[.int .i64 k, .int .i64 i]) (ys := #[.int .i64 k', .int .i64 i']) (by simpa using timer_flat hk hi) (by simpa using timer_flat hk' hi') (by simp; intro _; exact hne) w
/-- What is read of two timers that were told. -/
theorem held_xy {w : World} {x y : Nat} {k i k' i' : Int} (hx : w.heap[x]? = some (tobj k i)) (hy : w.heap[y]? = some (tobj k' i')) :
    w.cell? ⟨x, 0, none⟩ = some (.int .i64 k) ∧ w.cell? ⟨x, 1, none⟩ = some (.int .i64 i) ∧ w.cell? ⟨y, 0, none⟩ = some (.int .i64 k') ∧ w.cell? ⟨y, 1, none⟩ = some (.int .i64 i') :=
  ⟨(cells2 hx).1, (cells2 hx).2, (cells2 hy).1, (cells2 hy).2⟩
theorem kb_alloc {w : World} {j : Nat} {o : Obj} (h : w.heap[j]? = some o) (o' : Obj) : (w.alloc o').heap[j]? = some o := (heap_alloc_lt (heap_lt h)).trans h

set_option maxRecDepth 100000 in
set_option maxHeartbeats 2000000 in
theorem walk (w : World) (a0 : Int) (w0 : (Lit.int .u64 a0).wf = true) (a1 : Option Addr) (l1 k1 : Nat) (L1 : List (List Value)) (w1 : SliceIn w [.int .u64] 8 a1 l1 k1 L1) (a2 : Int) (w2 : (Lit.int .u8 a2).wf = true) :
    Calls Try.prog 7 #[.int .u64 a0, .slice a1 l1 k1, .int .u8 a2] w fun e w' => e = .returned (.bool true) ∧ Below w.heap.size w w' := by
  have b0 := wf_u64 w0
  obtain ⟨zs, hzl, hrow⟩ := w1.row
  have b2 := bounds_u8 w2
  clear w0 w1 w2
  obtain ⟨n, hn⟩ : ∃ n, (if 60 < l1 then 60 else l1) = n := ⟨_, rfl⟩
  have hn' : n ≤ l1 ∧ n ≤ 60 ∧ (n < 60 → n = l1) := by rw [← hn]; split <;> omega
  have hml := hrow.2.1
  unfold maxLen at hml
  have HROW := Lib.hid hrow
  clear hrow
  by_cases hl0 : l1 = 0
  · have hl0' : ((l1 : Int) == 0) = true := by simp [hl0]
    clear hl0
    go_enter Try.func7, Try.ntmps7
    go_wp2_with fail
    refine (awake_any _).mono ?_
    rintro e wa ⟨rfl, hba⟩
    go_wp2
    go_ret
    exact ⟨rfl, hba⟩
  · have hl0' : ((l1 : Int) == 0) = false := by simp [hl0]
    have hn0 : 0 < n := by omega
    have hmin : (if (60 : Int) < (l1 : Int) then (60 : Int) else (l1 : Int)) = (n : Int) := by rw [← hn]; split <;> split <;> omega
    obtain ⟨c, hcv⟩ : ∃ c : Nat, a2 % (n : Int) = c := ⟨(a2 % (n : Int)).toNat, by have := Int.emod_nonneg a2 (b := (n : Int)) (by omega); omega⟩
    have hcn : c < n := by have := Int.emod_lt_of_pos a2 (b := (n : Int)) (by omega); omega
    go_enter Try.func7, Try.ntmps7
    go_wp2_with fail
    refine (awake_any _).mono ?_
    rintro e wa ⟨rfl, hba⟩
    have hpu := put_any a1 l1 k1 a0 zs wa (HROW.out.later hba) hzl b0.1 b0.2
    rw [hn] at hpu
    have HBA := Lib.hid hba
    clear hba
    go_wp2_with fail
    refine hpu.mono ?_
    clear hpu
    rintro e wb ⟨b, rfl, m, La, hoa, hLa⟩
    have oa := hoa.lift HBA.out
    have OA := Lib.hid oa
    have HLa := Lib.hid hLa
    clear oa hoa hLa hn hl0
    go_wp2_with fail
    refine (own_new wb a0 wb b0.1 b0.2 (Below.refl _ _)).mono ?_
    rintro e wc ⟨b', m', rfl, ob, _, _, _⟩
    have OB := Lib.hid ob
    clear ob
    go_wp2
    rw [hcv]
    clear hcv hmin hl0'
    go_loopg [11] n (fun k v11 wr => ∃ (i : Nat) (L : List Ent), i + k = n ∧ v11 = .int .i64 i ∧ Own wb wr b' m' a0 L ∧ L.map vw = but c (seqV a0 zs i))
    case atStart => exact ⟨0, [], by omega, rfl, OB.out, rfl⟩
    case round =>
      obtain ⟨i, L, hk, rfl, ho, hL⟩ := hrel
      have K := Lib.hid hk
      have O := Lib.hid ho
      have HL := Lib.hid hL
      clear hk ho hL OB
      by_cases hi : i < n
      · have hi1 : (i : Int) < l1 := by omega
        have hi2 : (i : Int) < 60 := by omega
        have hbs := but_seqV a0 c zs i
        by_cases hic : i = c
        · rw [if_pos (by omega)] at hbs
          have HBS := Lib.hid hbs
          clear hbs
          subst hic
          go_wp2
          go_roundg (n - (i + 1))
          case measure => have := K.out; omega
          case rel => exact ⟨i + 1, L, by omega, by simp, O.out, by rw [HBS.out]; exact HL.out⟩
        · have hic' : ((i : Int) == (c : Int)) = false := by simp; omega
          have hic2 : (i == c) = false := by simp; omega
          rw [if_neg (by omega)] at hbs
          have HBS := Lib.hid hbs
          clear hbs
          obtain ⟨zb, off, ha, hc⟩ : ∃ zb off, a1 = some ⟨zb, off, none⟩ ∧ w.cell? ⟨zb, off + i, none⟩ = some (.int .u64 (zs.getD i 0)) := by
            rcases HROW.out.2.2.1 with h | ⟨zb, off, ha, hc⟩
            · omega
            · exact ⟨zb, off, ha, hc i (by omega)⟩
          subst ha
          have hwf := wf_u64 (wf_getD HROW.out.2.2.2 (j := i) (by omega))
          have hcb := (OA.out.low.cell (cell_lt hc)).trans hc
          have hcr : ∀ v, Below wb.heap.size wb v → v.cell? ⟨zb, off + i, none⟩ = some (.int .u64 (zs.getD i 0)) := fun v hb => (hb.cell (cell_lt hcb)).trans hcb
          obtain ⟨z, hz⟩ : ∃ z, z = zs.getD i 0 := ⟨_, rfl⟩
          rw [← hz] at hwf hcr
          obtain ⟨q, hq⟩ : ∃ q, (if 18446744073709551615 - a0 < z then 18446744073709551615 - a0 else z) = q := ⟨_, rfl⟩
          have hqb : 0 ≤ q ∧ q ≤ 18446744073709551615 - a0 := by rw [← hq]; split <;> omega
          have hfd : farD a0 (zs.getD i 0) = a0 + q := by rw [← hz, ← hq]; rfl
          have hw1 : IntKind.u64.wrap (18446744073709551615 - a0) = 18446744073709551615 - a0 := by rw [IntKind.wrap_u64]; omega
          have hw2 : IntKind.u64.wrap (a0 + q) = a0 + q := by rw [IntKind.wrap_u64]; omega
          have hLlen : L.length ≤ i := by
            have := congrArg List.length HL.out
            have h2 := List.length_filter_le (fun x : Ent => x.i != (c : Int)) (seqV a0 zs i)
            rw [List.length_map, but] at this
            rw [seqV_length] at h2
            omega
          have hfresh : ∀ e ∈ L, ¬ (e.k = 1 ∧ e.i = (i : Int)) := fun e he hcc => by
            have : vw e ∈ but c (seqV a0 zs i) := by rw [← HL.out]; exact List.mem_map_of_mem he
            obtain ⟨j, hj, hje⟩ := seqV_mem.1 (List.mem_filter.1 this).1
            have h2 : e.i = (j : Int) := congrArg Ent.i hje
            omega
          have HC := Lib.hid hcr
          have FD := Lib.hid hfd
          have LL := Lib.hid hLlen
          have FR := Lib.hid hfresh
          clear hc hcb hcr hfd hLlen hfresh hz
          go_wp2
          go_region_held3 (fun v => v.cell? ⟨zb, off + i, none⟩ = some (.int .u64 z) ∧ Below wb.heap.size wb v)
            (first | exact ⟨HC.out _ O.out.drew.low, O.out.drew.low⟩ | exact ⟨HC.out _ (O.out.alloc _).drew.low, (O.out.alloc _).drew.low⟩ | exact ⟨HC.out _ ho5.low, ho5.low⟩)
            (first
              | (go_at_call 21; refine (timer_any _ _).mono ?_; rintro r v' ⟨rfl, rfl⟩)
              | (go_at_call 20; refine (own_put wb b' m' a0 1 i (a0 + q) L _ (O.out.alloc _).drew ⟨by omega, by omega⟩ ⟨by omega, by omega⟩ (by omega) (by omega) (by have := LL.out; omega) FR.out).mono ?_; rintro r w5 ⟨rfl, hf5, g5, hg5, ho5⟩))
          all_goals (go_wp2; go_roundg (n - (i + 1)))
          all_goals first
            | (have := K.out; omega)
            | (rw [if_neg (by omega)] at ho5; refine ⟨i + 1, _, by omega, by simp, ho5, ?_⟩; rw [map_ins, HL.out, HBS.out, oneV, FD.out]; rfl)
      · have hin : i = n := by have := K.out; omega
        by_cases hil : (i : Int) < l1
        · have h60 : ¬ (i : Int) < 60 := by omega
          go_wp2_with fail
          refine (timer_any c _).mono ?_
          rintro r _ ⟨rfl, rfl⟩
          have oa1 := (OA.out.below O.out.low).alloc (tobj 1 c)
          have ob1 := (O.out.lift OA.out.low).alloc (tobj 1 c)
          have hdis : ∀ j, Foot b m La j → ¬ Foot b' m' L j := fun j hj hj' => by
            have h1 := OA.out.whl.foot_lt hj
            have h2 := O.out.foot j hj'
            omega
          have hca := cancel_whl b m a0 1 c La _ oa1.whl ⟨by omega, by omega⟩ ⟨by omega, by omega⟩
          have OA1 := Lib.hid oa1
          have OB1 := Lib.hid ob1
          have DIS := Lib.hid hdis
          clear oa1 ob1 hdis
          go_wp2_with fail
          refine hca.mono ?_
          clear hca
          rintro r w2 ⟨hf2, hca⟩
          obtain ⟨e, he, hek, hei, rfl, hw2⟩ : ∃ e ∈ La, e.k = 1 ∧ e.i = (c : Int) ∧ r = .returned (.bool true) ∧ Whl w2 b m a0 (del e.g La) := by
            rcases hca with h | ⟨hno, _⟩
            · exact h
            · have hm1 : oneV a0 zs c ∈ La.map vw := by rw [HLa.out]; exact seqV_mem.2 ⟨c, hcn, rfl⟩
              obtain ⟨x, hx, hxe⟩ := List.mem_map.1 hm1
              simp only [vw, oneV, Ent.mk.injEq, true_and] at hxe
              exact absurd ⟨hxe.1, hxe.2.1⟩ (hno x hx)
          have hone : ∀ x ∈ La, x.k = 1 := fun x hx => by
            have : vw x ∈ seqV a0 zs n := by rw [← HLa.out]; exact List.mem_map_of_mem hx
            obtain ⟨j, hj, hje⟩ := seqV_mem.1 this
            exact congrArg Ent.k hje
          have oa2 := OA1.out.after hf2 hw2 (fun x hx => .inl (List.mem_filter.1 hx).1)
          have ob2 : Own w w2 b' m' a0 L := ⟨OB1.out.whl.frm hf2 (fun j hj hc => DIS.out j hc hj), oa2.low, OB1.out.foot⟩
          have hview : (del e.g La).map vw = L.map vw := by
            rw [del_view OA.out.whl.apart OA.out.whl.keys he (fun x hx => by rw [hone x hx, hek]), HLa.out, HL.out, hin, hei]
          have hall : ∀ x ∈ del e.g La, x.i ≠ (c : Int) := fun x hx => by
            have : vw x ∈ but c (seqV a0 zs i) := by rw [← HL.out, ← hview]; exact List.mem_map_of_mem hx
            have h2 := (List.mem_filter.1 this).2
            simpa [vw] using h2
          have hdis2 : ∀ j, Foot b m (del e.g La) j → ¬ Foot b' m' L j := fun j hj => by
            refine DIS.out j ?_
            rcases hj with h | h | ⟨x, hx, h⟩
            · exact .inl h
            · exact .inr (.inl h)
            · exact .inr (.inr ⟨x, (List.mem_filter.1 hx).1, h⟩)
          have hbes := Lib.hid (Beside.mk oa2 ob2 hdis2 hview)
          have hno2 := Lib.hid hall
          have hlen2 : (del e.g La).length ≤ 60 := by
            have h1 := List.length_filter_le (fun x : Ent => x.g != e.g) La
            have h2 := congrArg List.length HLa.out
            rw [List.length_map, seqV_length] at h2
            rw [del]
            omega
          generalize del e.g La = Ld at *
          clear hf2 hca hw2 hone oa2 ob2 hview hall hdis2 he hek hei
          go_wp2_with fail
          refine (timer_any c _).mono ?_
          rintro r _ ⟨rfl, rfl⟩
          have bes3 := hbes.out.alloc (tobj 1 c)
          have hca := cancel_whl b m a0 1 c Ld _ bes3.fa.whl ⟨by omega, by omega⟩ ⟨by omega, by omega⟩
          have BES3 := Lib.hid bes3
          clear bes3
          go_wp2_with fail
          refine hca.mono ?_
          clear hca
          rintro r w4 ⟨hf4, hca⟩
          obtain ⟨rfl, hw4⟩ : r = .returned (.bool false) ∧ Whl w4 b m a0 Ld := by
            rcases hca with ⟨x, hx, _, hxi, _⟩ | ⟨_, h⟩
            · exact absurd hxi (hno2.out x hx)
            · exact h
          have BES4 := Lib.hid (BES3.out.first hf4 (BES3.out.fa.after hf4 hw4 (fun x hx => .inl hx)))
          clear hf4 hca hw4
          go_wp2
          go_loopg [14] 60 (fun k v14 wq => ∃ (kk : Nat) (na nb : Int) (P P' : List Ent), kk + k = 60 ∧ v14 = .int .i64 kk ∧ Beside w wq b m b' m' na nb P P' ∧ ∀ x ∈ P, x.i ≠ (c : Int))
          case atStart => exact ⟨0, a0, a0, Ld, L, rfl, rfl, BES4.out, hno2.out⟩
          case round =>
            obtain ⟨kk, na, nb, P, P', hkk, rfl, hbe, hne⟩ := hrel
            have KK := Lib.hid hkk
            have BE := Lib.hid hbe
            have NE := Lib.hid hne
            clear hkk hbe hne
            by_cases hk60 : kk < 60
            · have hk60' : (kk : Int) < 60 := by omega
              cases P with
              | nil =>
                have hP' : P' = [] := by have := BE.out.vv; simpa using this.symm
                subst hP'
                have hst := own_step_none w b m na 18446744073709551615 [] _ BE.out.fa BE.out.fa.whl.now0.2 (by omega) (by simp)
                have hsame := sameT 0 0 ⟨by omega, by omega⟩ ⟨by omega, by omega⟩
                go_wp2_with fail
                refine hst.mono ?_
                clear hst
                rintro r w5 ⟨rfl, hf5, o5⟩
                have BE5 := Lib.hid ((BE.out.first hf5 o5).alloc (tobj 0 0))
                have hst := own_step_none w b' m' nb 18446744073709551615 [] _ BE5.out.fb BE5.out.fb.whl.now0.2 (by omega) (by simp)
                clear hf5 o5
                go_wp2_with fail
                refine hst.mono ?_
                clear hst
                rintro r w6 ⟨rfl, hf6, o6⟩
                have hx6 := kb_alloc (Whl.other BE5.out.fb.whl hf6 (heap_alloc_at w5 (tobj 0 0)) (by decide) (by decide)) (tobj 0 0)
                have hy6 := heap_alloc_at w6 (tobj 0 0)
                obtain ⟨hx0, hx1, hy0, hy1⟩ := held_xy hx6 hy6
                have oa6 : Own w w6 b m 18446744073709551615 [] := ⟨BE5.out.fa.whl.frm hf6 (fun j hj hc => BE5.out.ap j hj hc), o6.low, BE5.out.fa.foot⟩
                have BE6 := Lib.hid (Beside.alloc ⟨oa6, o6, BE5.out.ap, rfl⟩ (tobj 0 0))
                clear hf6 hx6 hy6 oa6 o6
                go_wp2
                go_quiet (fail)
                go_wp2
                go_roundg (60 - (kk + 1))
                case measure => have := KK.out; omega
                case rel => exact ⟨kk + 1, _, _, [], [], by omega, by simp, ⟨BE6.out.fa.ali ⟨rfl, rfl, rfl, rfl⟩, BE6.out.fb.ali ⟨rfl, rfl, rfl, rfl⟩, BE6.out.ap, rfl⟩, by simp⟩
              | cons e l =>
                obtain ⟨e', l', rfl⟩ : ∃ e' l', P' = e' :: l' := by
                  cases P' with
                  | nil => have := BE.out.vv; simp at this
                  | cons e' l' => exact ⟨e', l', rfl⟩
                have hvv : vw e = vw e' := (List.cons.inj (by simpa using BE.out.vv)).1
                simp only [vw, Ent.mk.injEq, true_and] at hvv
                have HK := Lib.hid hvv
                have hei : e.i ≠ (c : Int) := NE.out e (by simp)
                have hwe := BE.out.fa.whl.wf e (by simp)
                have hsame := sameT e.k e.i hwe.1 hwe.2
                have hdiff := diffT e.k e.i 1 c hwe.1 hwe.2 ⟨by omega, by omega⟩ ⟨by omega, by omega⟩ hei
                have hst := own_step_some w b m na 18446744073709551615 e l _ BE.out.fa (BE.out.fa.whl.due e (by simp)).2 (by omega)
                clear hvv hei
                go_wp2_with fail
                refine hst.mono ?_
                clear hst
                rintro r w5 ⟨rfl, hf5, o5⟩
                have obd := (BE.out.other hf5 o5.low).alloc (tobj e.k e.i)
                have hst := own_step_some w b' m' nb 18446744073709551615 e' l' _ obd (obd.whl.due e' (by simp)).2 (by omega)
                have OBD := Lib.hid obd
                have OD := Lib.hid (o5.alloc (tobj e.k e.i))
                clear obd o5 hf5
                go_wp2_with fail
                refine hst.mono ?_
                clear hst
                rintro r w6 ⟨rfl, hf6, o6⟩
                rw [← HK.out.1, ← HK.out.2.1]
                have hx6 := kb_alloc (Whl.other OBD.out.whl hf6 (heap_alloc_at w5 (tobj e.k e.i)) (by decide) (by decide)) (tobj e.k e.i)
                have hy6 := heap_alloc_at w6 (tobj e.k e.i)
                have BE6 := Lib.hid ((BE.out.both OD.out hf6 o6).alloc (tobj e.k e.i))
                have X6 := Lib.hid hx6
                have Y6 := Lib.hid hy6
                clear hf6 o6 hx6 hy6
                go_wp2
                go_region_held3 (fun v => v.cell? ⟨w5.heap.size, 0, none⟩ = some (.int .i64 e.k) ∧ v.cell? ⟨w5.heap.size, 1, none⟩ = some (.int .i64 e.i) ∧ v.cell? ⟨w6.heap.size, 0, none⟩ = some (.int .i64 e.k) ∧ v.cell? ⟨w6.heap.size, 1, none⟩ = some (.int .i64 e.i))
                  (first | exact held_xy X6.out Y6.out | exact held_xy (kb_alloc X6.out _) (kb_alloc Y6.out _))
                  (first | (go_at_call 21; refine (timer_any _ _).mono ?_; rintro r v' ⟨rfl, rfl⟩))
                all_goals (go_wp2; go_roundg (60 - (kk + 1)))
                all_goals first
                  | (have := KK.out; omega)
                  | exact ⟨kk + 1, _, _, l, l', by omega, by simp, ⟨(BE6.out.fa.alloc _).ali ⟨rfl, rfl, rfl, rfl⟩, (BE6.out.fb.alloc _).ali ⟨rfl, rfl, rfl, rfl⟩, BE6.out.ap, BE6.out.vv⟩, fun x hx => NE.out x (by simp [hx])⟩
            · have hk60' : ¬ (kk : Int) < 60 := by omega
              go_wp2
              go_ret
              exact ⟨rfl, BE.out.fa.low⟩
        · skip
          go_wp2_with fail
          refine (timer_any c _).mono ?_
          rintro r _ ⟨rfl, rfl⟩
          have oa1 := (OA.out.below O.out.low).alloc (tobj 1 c)
          have ob1 := (O.out.lift OA.out.low).alloc (tobj 1 c)
          have hdis : ∀ j, Foot b m La j → ¬ Foot b' m' L j := fun j hj hj' => by
            have h1 := OA.out.whl.foot_lt hj
            have h2 := O.out.foot j hj'
            omega
          have hca := cancel_whl b m a0 1 c La _ oa1.whl ⟨by omega, by omega⟩ ⟨by omega, by omega⟩
          have OA1 := Lib.hid oa1
          have OB1 := Lib.hid ob1
          have DIS := Lib.hid hdis
          clear oa1 ob1 hdis
          go_wp2_with fail
          refine hca.mono ?_
          clear hca
          rintro r w2 ⟨hf2, hca⟩
          obtain ⟨e, he, hek, hei, rfl, hw2⟩ : ∃ e ∈ La, e.k = 1 ∧ e.i = (c : Int) ∧ r = .returned (.bool true) ∧ Whl w2 b m a0 (del e.g La) := by
            rcases hca with h | ⟨hno, _⟩
            · exact h
            · have hm1 : oneV a0 zs c ∈ La.map vw := by rw [HLa.out]; exact seqV_mem.2 ⟨c, hcn, rfl⟩
              obtain ⟨x, hx, hxe⟩ := List.mem_map.1 hm1
              simp only [vw, oneV, Ent.mk.injEq, true_and] at hxe
              exact absurd ⟨hxe.1, hxe.2.1⟩ (hno x hx)
          have hone : ∀ x ∈ La, x.k = 1 := fun x hx => by
            have : vw x ∈ seqV a0 zs n := by rw [← HLa.out]; exact List.mem_map_of_mem hx
            obtain ⟨j, hj, hje⟩ := seqV_mem.1 this
            exact congrArg Ent.k hje
          have oa2 := OA1.out.after hf2 hw2 (fun x hx => .inl (List.mem_filter.1 hx).1)
          have ob2 : Own w w2 b' m' a0 L := ⟨OB1.out.whl.frm hf2 (fun j hj hc => DIS.out j hc hj), oa2.low, OB1.out.foot⟩
          have hview : (del e.g La).map vw = L.map vw := by
            rw [del_view OA.out.whl.apart OA.out.whl.keys he (fun x hx => by rw [hone x hx, hek]), HLa.out, HL.out, hin, hei]
          have hall : ∀ x ∈ del e.g La, x.i ≠ (c : Int) := fun x hx => by
            have : vw x ∈ but c (seqV a0 zs i) := by rw [← HL.out, ← hview]; exact List.mem_map_of_mem hx
            have h2 := (List.mem_filter.1 this).2
            simpa [vw] using h2
          have hdis2 : ∀ j, Foot b m (del e.g La) j → ¬ Foot b' m' L j := fun j hj => by
            refine DIS.out j ?_
            rcases hj with h | h | ⟨x, hx, h⟩
            · exact .inl h
            · exact .inr (.inl h)
            · exact .inr (.inr ⟨x, (List.mem_filter.1 hx).1, h⟩)
          have hbes := Lib.hid (Beside.mk oa2 ob2 hdis2 hview)
          have hno2 := Lib.hid hall
          have hlen2 : (del e.g La).length ≤ 60 := by
            have h1 := List.length_filter_le (fun x : Ent => x.g != e.g) La
            have h2 := congrArg List.length HLa.out
            rw [List.length_map, seqV_length] at h2
            rw [del]
            omega
          generalize del e.g La = Ld at *
          clear hf2 hca hw2 hone oa2 ob2 hview hall hdis2 he hek hei
          go_wp2_with fail
          refine (timer_any c _).mono ?_
          rintro r _ ⟨rfl, rfl⟩
          have bes3 := hbes.out.alloc (tobj 1 c)
          have hca := cancel_whl b m a0 1 c Ld _ bes3.fa.whl ⟨by omega, by omega⟩ ⟨by omega, by omega⟩
          have BES3 := Lib.hid bes3
          clear bes3
          go_wp2_with fail
          refine hca.mono ?_
          clear hca
          rintro r w4 ⟨hf4, hca⟩
          obtain ⟨rfl, hw4⟩ : r = .returned (.bool false) ∧ Whl w4 b m a0 Ld := by
            rcases hca with ⟨x, hx, _, hxi, _⟩ | ⟨_, h⟩
            · exact absurd hxi (hno2.out x hx)
            · exact h
          have BES4 := Lib.hid (BES3.out.first hf4 (BES3.out.fa.after hf4 hw4 (fun x hx => .inl hx)))
          clear hf4 hca hw4
          go_wp2
          go_loopg [14] 60 (fun k v14 wq => ∃ (kk : Nat) (na nb : Int) (P P' : List Ent), kk + k = 60 ∧ v14 = .int .i64 kk ∧ Beside w wq b m b' m' na nb P P' ∧ ∀ x ∈ P, x.i ≠ (c : Int))
          case atStart => exact ⟨0, a0, a0, Ld, L, rfl, rfl, BES4.out, hno2.out⟩
          case round =>
            obtain ⟨kk, na, nb, P, P', hkk, rfl, hbe, hne⟩ := hrel
            have KK := Lib.hid hkk
            have BE := Lib.hid hbe
            have NE := Lib.hid hne
            clear hkk hbe hne
            by_cases hk60 : kk < 60
            · have hk60' : (kk : Int) < 60 := by omega
              cases P with
              | nil =>
                have hP' : P' = [] := by have := BE.out.vv; simpa using this.symm
                subst hP'
                have hst := own_step_none w b m na 18446744073709551615 [] _ BE.out.fa BE.out.fa.whl.now0.2 (by omega) (by simp)
                have hsame := sameT 0 0 ⟨by omega, by omega⟩ ⟨by omega, by omega⟩
                go_wp2_with fail
                refine hst.mono ?_
                clear hst
                rintro r w5 ⟨rfl, hf5, o5⟩
                have BE5 := Lib.hid ((BE.out.first hf5 o5).alloc (tobj 0 0))
                have hst := own_step_none w b' m' nb 18446744073709551615 [] _ BE5.out.fb BE5.out.fb.whl.now0.2 (by omega) (by simp)
                clear hf5 o5
                go_wp2_with fail
                refine hst.mono ?_
                clear hst
                rintro r w6 ⟨rfl, hf6, o6⟩
                have hx6 := kb_alloc (Whl.other BE5.out.fb.whl hf6 (heap_alloc_at w5 (tobj 0 0)) (by decide) (by decide)) (tobj 0 0)
                have hy6 := heap_alloc_at w6 (tobj 0 0)
                obtain ⟨hx0, hx1, hy0, hy1⟩ := held_xy hx6 hy6
                have oa6 : Own w w6 b m 18446744073709551615 [] := ⟨BE5.out.fa.whl.frm hf6 (fun j hj hc => BE5.out.ap j hj hc), o6.low, BE5.out.fa.foot⟩
                have BE6 := Lib.hid (Beside.alloc ⟨oa6, o6, BE5.out.ap, rfl⟩ (tobj 0 0))
                clear hf6 hx6 hy6 oa6 o6
                go_wp2
                go_quiet (fail)
                go_wp2
                go_roundg (60 - (kk + 1))
                case measure => have := KK.out; omega
                case rel => exact ⟨kk + 1, _, _, [], [], by omega, by simp, ⟨BE6.out.fa.ali ⟨rfl, rfl, rfl, rfl⟩, BE6.out.fb.ali ⟨rfl, rfl, rfl, rfl⟩, BE6.out.ap, rfl⟩, by simp⟩
              | cons e l =>
                obtain ⟨e', l', rfl⟩ : ∃ e' l', P' = e' :: l' := by
                  cases P' with
                  | nil => have := BE.out.vv; simp at this
                  | cons e' l' => exact ⟨e', l', rfl⟩
                have hvv : vw e = vw e' := (List.cons.inj (by simpa using BE.out.vv)).1
                simp only [vw, Ent.mk.injEq, true_and] at hvv
                have HK := Lib.hid hvv
                have hei : e.i ≠ (c : Int) := NE.out e (by simp)
                have hwe := BE.out.fa.whl.wf e (by simp)
                have hsame := sameT e.k e.i hwe.1 hwe.2
                have hdiff := diffT e.k e.i 1 c hwe.1 hwe.2 ⟨by omega, by omega⟩ ⟨by omega, by omega⟩ hei
                have hst := own_step_some w b m na 18446744073709551615 e l _ BE.out.fa (BE.out.fa.whl.due e (by simp)).2 (by omega)
                clear hvv hei
                go_wp2_with fail
                refine hst.mono ?_
                clear hst
                rintro r w5 ⟨rfl, hf5, o5⟩
                have obd := (BE.out.other hf5 o5.low).alloc (tobj e.k e.i)
                have hst := own_step_some w b' m' nb 18446744073709551615 e' l' _ obd (obd.whl.due e' (by simp)).2 (by omega)
                have OBD := Lib.hid obd
                have OD := Lib.hid (o5.alloc (tobj e.k e.i))
                clear obd o5 hf5
                go_wp2_with fail
                refine hst.mono ?_
                clear hst
                rintro r w6 ⟨rfl, hf6, o6⟩
                rw [← HK.out.1, ← HK.out.2.1]
                have hx6 := kb_alloc (Whl.other OBD.out.whl hf6 (heap_alloc_at w5 (tobj e.k e.i)) (by decide) (by decide)) (tobj e.k e.i)
                have hy6 := heap_alloc_at w6 (tobj e.k e.i)
                have BE6 := Lib.hid ((BE.out.both OD.out hf6 o6).alloc (tobj e.k e.i))
                have X6 := Lib.hid hx6
                have Y6 := Lib.hid hy6
                clear hf6 o6 hx6 hy6
                go_wp2
                go_region_held3 (fun v => v.cell? ⟨w5.heap.size, 0, none⟩ = some (.int .i64 e.k) ∧ v.cell? ⟨w5.heap.size, 1, none⟩ = some (.int .i64 e.i) ∧ v.cell? ⟨w6.heap.size, 0, none⟩ = some (.int .i64 e.k) ∧ v.cell? ⟨w6.heap.size, 1, none⟩ = some (.int .i64 e.i))
                  (first | exact held_xy X6.out Y6.out | exact held_xy (kb_alloc X6.out _) (kb_alloc Y6.out _))
                  (first | (go_at_call 21; refine (timer_any _ _).mono ?_; rintro r v' ⟨rfl, rfl⟩))
                all_goals (go_wp2; go_roundg (60 - (kk + 1)))
                all_goals first
                  | (have := KK.out; omega)
                  | exact ⟨kk + 1, _, _, l, l', by omega, by simp, ⟨(BE6.out.fa.alloc _).ali ⟨rfl, rfl, rfl, rfl⟩, (BE6.out.fb.alloc _).ali ⟨rfl, rfl, rfl, rfl⟩, BE6.out.ap, BE6.out.vv⟩, fun x hx => NE.out x (by simp [hx])⟩
            · have hk60' : ¬ (kk : Int) < 60 := by omega
              go_wp2
              go_ret
              exact ⟨rfl, BE.out.fa.low⟩

set_option maxRecDepth 100000 in
theorem lifted (os : Os) (started : os.Started) (H : Type) (enc : TypeId × Value → H) :
    ReturnsInHanded {} Try.checked os 7 .any (Rows.wheelCancelsSpec.pre6 enc Try.prog Try.f7 Rows.wheelCancelsRow.domain false) (Rows.wheelCancelsSpec.post enc Try.prog Try.f7 false true false false) := by
  refine returnsInHanded_of_change_sized (C := Try.checked) own started (by kernel_rfl) Try.func7
    (ChangeSpec.witness6 (enc := enc) (C := Try.checked) false ⟨#[], #[.int .u64 0, .slice none 0 0, .int .u8 0], []⟩ 8 (by kernel_rfl) (by kernel_rfl) (by kernel_rfl) (by kernel_rfl)) ?_
  intro W base args ds gs before hval0 hW hcnd hsz0 _
  have hval : ∀ (j : Nat) t v, Try.f7.params[j]? = some t → args[j]? = some v → Value.okWide Try.prog W .any base t v := hval0
  have hsz : (DataW.weightsEach Try.prog (Try.f7.params.toList ++ Rows.wheelCancelsSpec.plain.varTypes Try.prog) (ds ++ gs)).all (· ≤ reachBytes) = true := hsz0
  have hW' := hW
  obtain ⟨p, q, hA0, hV, rfl, hfz, hnd⟩ := hW
  have hA : DataW.TrodAll enc Try.prog W 0 (fun _ => true) true Try.f7.params.toList args.toList ds p := hA0
  rw [Try.params7] at hA hval hsz
  have hAk := hA
  obtain ⟨v0, vs0, d0, ds0, p0, q0, hargs, rfl, rfl, h0, r0⟩ := trodAll_cons hA
  obtain ⟨v1, vs1, d1, ds1, p1, q1, rfl, rfl, rfl, h1, r1⟩ := trodAll_cons r0
  obtain ⟨v2, vs2, d2, ds2, p2, q2, rfl, rfl, rfl, h2, r2⟩ := trodAll_cons r1
  obtain ⟨rfl, rfl, rfl⟩ := trodAll_nil r2
  obtain rfl : args = #[v0, v1, v2] := by cases args; simp_all
  obtain ⟨rfl, rfl⟩ := trodVars_none hV
  obtain ⟨a0, rfl, rfl, rfl, w0⟩ := open_int Try.underlying22 (hval 0 22 v0 rfl rfl) h0
  obtain ⟨a1, l1, k1, L1, rfl, w1⟩ := open_slice_flat (ks := [.int .u64]) (bytes := 8) 8 Try.underlying41 (by kernel_rfl) (by kernel_rfl) (by decide) (by kernel_rfl) (hval 1 41 v1 rfl rfl) h1 (fun elems rest hd => by subst hd; exact sized_slice hsz (j := 1) (t := 41) (e := 22) rfl rfl Try.underlying41)
  obtain ⟨a2, rfl, rfl, rfl, w2⟩ := open_int Try.underlying5 (hval 2 5 v2 rfl rfl) h2
  clear hA0 hval0 hsz0
  refine (walk W a0 w0 a1 l1 k1 L1 w1 a2 w2).mono fun e W' ⟨he, bel⟩ => ?_
  subst he
  exact ⟨_, rfl, _, _, _, [], _, [], hW', trodAll_mk1 (shut_bool Try.underlying4 _), trodAll_below laidOut bel _ _ _ _ (by kernel_rfl) hAk, rfl, bel.frame _, fun h => by cases h⟩

theorem over : Rows.wheelCancelsRow.holds Try.pinned (OpenSpec.ofChange Rows.wheelCancelsSpec) :=
  OpenClaim.holds_of_wide 7 Try.f7 rfl rfl rfl rfl rfl rfl rfl ⟨rfl, rfl, rfl, rfl, rfl⟩ rfl rfl rfl rfl rfl (by kernel_rfl) Try.func7 (by kernel_rfl)
    (of_decide_eq_true (by kernel_rfl)) (by unfold Func.isWrapper; first | (rw [if_pos (by decide +kernel)]; kernel_rfl) | (rw [if_neg (by decide +kernel)]; exact ⟨rfl, rfl⟩))
    (fun os started H enc _ => lifted os started H enc)

theorem proved : Rows.WheelCancelsSaid := over
#print axioms proved
end Go.Proofs.Ytgpebbopggmgbaa.wheelCancels
