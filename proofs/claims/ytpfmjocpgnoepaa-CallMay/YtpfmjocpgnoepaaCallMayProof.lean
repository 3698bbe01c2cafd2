/- What is proved: CallMay of porpoiselaw15 answers true for every input, and leaves its arguments as they were; conditions: those of the given row alone. -/
import Derived.Test.YtpfmjocpgnoepaaKit
import Derived.Test.YtpfmjocpgnoepaaLaw15
import Derived.Test.YtpfmjocpgnoepaaOuts2
import Derived.Test.YtpfmjocpgnoepaaRef13d
import Derived.Deep.DeepCutAuto
namespace Go.Proofs.Ytpfmjocpgnoepaa.callMay
open Go.ChangeShapes Go.WideShapes Go.ChangeAt Go.RowKit Go.Deep
open Go.ChangeMaps (open_string shut_string)
set_option linter.unusedVariables false

theorem own : ownKnob Try.prog.godebug = none := by kernel_rfl
theorem laidOut : laidOutB Try.prog = true := by kernel_rfl

theorem map_at {f : P2 → Ot} {ms : List P2} {i : Nat} {o : Ot} (h : (ms.map f)[i]? = some o) : ∃ p, ms[i]? = some p ∧ o = f p := by
  rw [List.getElem?_map] at h
  cases hp : ms[i]? with
  | none => rw [hp] at h; cases h
  | some p => rw [hp] at h; exact ⟨p, rfl, (Option.some.inj h).symm⟩
theorem told_at {x : Ot} {zs : List Int} {ms : List P2} {vs : List Int} {i : Nat} {o : Ot} (h : (toldL x (splitL zs ms vs))[i]? = some o) : ∃ p v, ms[i]? = some p ∧ o = ⟨p.a, x.kind, x.cause, v, x.tm⟩ := by
  cases hy : splitY zs ms vs with
  | false => rw [splitL_no hy] at h; simp [toldL] at h
  | true =>
    rw [splitL_yes hy, toldL, pairL, List.map_map] at h
    obtain ⟨p, h1, rfl⟩ := map_at h
    exact ⟨p, _, h1, rfl⟩
/-- Each outcome of a call that failed may be, and is its member's. -/
theorem outs_at {zs : List Int} {ms : List P2} {K : CN} {kind : Int} {vs : List Int} {i : Nat} {o : Ot} (hc : 1 ≤ K.ca ∧ K.ca ≤ 4) (h : (outsL zs ms K kind vs 5)[i]? = some o) :
    ∃ p c v, ms[i]? = some p ∧ o = ⟨p.a, kind, c, v, 5⟩ ∧ o.may = true := by
  unfold outsL at h
  split at h
  · rename_i hk
    obtain ⟨p, v, h1, rfl⟩ := told_at h
    exact ⟨p, _, v, h1, rfl, by simp [Ot.may, Ot.May, hk]⟩
  · split at h
    · rename_i hk
      obtain ⟨p, v, h1, rfl⟩ := told_at h
      exact ⟨p, _, v, h1, rfl, by simp [Ot.may, Ot.May, hk, hc]⟩
    · split at h
      · rename_i hk
        obtain ⟨p, h1, rfl⟩ := map_at h
        exact ⟨p, _, _, h1, rfl, by simp [Ot.may, Ot.May, hk, hc]⟩
      · simp at h
theorem cause_in {N : Nat} (h : N < 4) : 1 ≤ wrap64 (1 + wrap64 (N : Int)) ∧ wrap64 (1 + wrap64 (N : Int)) ≤ 4 := by
  rw [show wrap64 (N : Int) = (N : Int) from by unfold wrap64; omega]
  unfold wrap64
  omega
theorem outs_two (zs : List Int) (ms : List P2) (K : CN) (vs : List Int) (t : Int) : outsL zs ms K 2 vs t = [] := rfl
theorem outs_len4 (zs : List Int) (ms : List P2) (K : CN) (vs : List Int) (t : Int) : (outsL zs ms K 4 vs t).length = ms.length := by simp [outsL, failedL]
theorem outs_len13 {zs : List Int} {ms : List P2} {K : CN} {vs : List Int} {kind t : Int} (hk : kind = 1 ∨ kind = 3) (hy : splitY zs ms vs = true) : (outsL zs ms K kind vs t).length = ms.length := by
  rcases hk with rfl | rfl
  · simp [outsL, toldL, splitL_yes hy, pairL_len]
  · simp [outsL, toldL, splitL_yes hy, pairL_len]

set_option maxRecDepth 100000 in
set_option maxHeartbeats 2000000 in
theorem walk (w : World) (c0 : Array Value) (w0 : Shp w [.row [.int .i64] 8, .row [.int .i64, .int .i64] 16, .lit (.int .i64), .lit (.int .i64), .lit (.int .i64), .lit (.int .u64)] c0.toList) (a1 : Int) (w1 : (Lit.int .u8 a1).wf = true) (a2 : Option Addr) (l2 k2 : Nat) (L2 : List (List Value)) (w2 : SliceIn w [.int .i64] 8 a2 l2 k2 L2) :
    Calls Try.prog 7 #[.agg c0, .int .u8 a1, .slice a2 l2 k2] w fun e w' => e = .returned (.bool true) ∧ Below w.heap.size w w' := by
  obtain ⟨A, n, k, M, m, d, KN, zs, ms, rfl, hB, hF, hZ⟩ := call_in w0
  obtain ⟨vs, hv, hvf, _, _⟩ := ints_in w2
  have hch0 := (bounds_u8 w1).1
  obtain ⟨ch, hch⟩ : ∃ ch : Nat, a1 = (ch : Int) := ⟨a1.toNat, by omega⟩
  subst hch
  obtain ⟨N, hN⟩ : ∃ N, ch % 4 = N := ⟨_, rfl⟩
  have hN0 : N < 4 := by rw [← hN]; exact Nat.mod_lt _ (by decide)
  have hN1 : (ch : Int).tmod 4 = (N : Int) := by rw [Int.tmod_eq_emod_of_nonneg (by omega)]; omega
  obtain ⟨ca, hca⟩ : ∃ ca : Int, wrap64 (1 + wrap64 (N : Int)) = ca := ⟨_, rfl⟩
  have hcb : 1 ≤ ca ∧ ca ≤ 4 := by rw [← hca]; exact cause_in hN0
  have CB := Lib.hid hcb
  clear hcb
  have HV := Lib.hid hv
  have hl2 := hv.2.1
  unfold maxLen at hl2
  clear hv hvf hN hN0 w1 w2 hch0
  obtain ⟨W, hW⟩ : ∃ W, w.alloc (.cells #[.slice A n k, .slice M m d, .int .i64 KN.st, .int .i64 KN.sp, .int .i64 KN.ca, .int .u64 KN.tm] 28) = W := ⟨_, rfl⟩
  have HW := Lib.hid hW
  have k0 : W.heap[w.heap.size]? = some (vobj 28 (kvals A n k M m d KN)) := by rw [← hW]; exact heap_alloc_at w (vobj 28 (kvals A n k M m d KN))
  have b0 : Below w.heap.size w W := by rw [← hW]; exact below_alloc w _
  have K0 := Lib.hid k0
  have B0 := Lib.hid b0
  have HB := Lib.hid hB
  have HF := Lib.hid hF
  clear w0 hW k0 b0 hB hZ hF
  go_enter Try.func7, Try.ntmps7
  go_wp2_with fail
  rw [HW.out]
  refine (awake15_any W).mono ?_
  rintro r wa ⟨rfl, ba⟩
  have BA := Lib.hid (B0.out.trans (ba.mono B0.out.size))
  have KA := Lib.hid (kb_below K0.out ba)
  obtain ⟨q0, q1, q2, q3, q4, q5⟩ := kobj_cells KA.out
  clear ba HW K0 B0
  go_wp2_with fail
  refine (few15_any A n k M m d wa).mono ?_
  rintro r wb ⟨rfl, bb⟩
  have BB := Lib.hid (BA.out.trans (bb.mono BA.out.size))
  have KB := Lib.hid (kb_below KA.out bb)
  clear q0 q1 q2 q3 q4 q5 bb KA BA
  by_cases hf : n ≤ 50 ∧ m ≤ 50
  case neg =>
    rw [decide_eq_false hf]
    clear hf
    go_wp2
    go_ret
    exact ⟨rfl, BB.out⟩
  case pos =>
    have hn : n ≤ 1000 := by omega
    have hm : m ≤ 1000 := by omega
    rw [decide_eq_true hf]
    clear hf
    by_cases hl : l2 ≤ 60
    case neg =>
      have hl' : decide ((60 : Int) < (l2 : Int)) = true := by simp; omega
      clear hl
      go_wp2
      go_ret
      exact ⟨rfl, BB.out⟩
    case pos =>
      have hl' : decide ((60 : Int) < (l2 : Int)) = false := by simp; omega
      clear hl
      have L := BB
      have KS := KB
      clear BB KB
      obtain ⟨s0, s1, s2, s3, s4, s5⟩ := kobj_cells KS.out
      try simp only at s2 s3 s4 s5
      go_wp2_with fail
      clear s0 s1 s2 s3 s4 s5
      refine (made15_any A n k M m d KN zs ms wb (HB.out.below L.out) hm).mono ?_
      rintro r v1 ⟨Mv1, dv1, rfl, hv1, bv1⟩
      have Hv1 := Lib.hid hv1
      have L_ := Lib.hid (L.out.trans (bv1.mono L.out.size))
      have KS_ := Lib.hid (kb_below KS.out bv1)
      clear L KS
      have L := L_
      have KS := KS_
      clear L_ KS_
      clear hv1 bv1
      have HFD : ∀ M' d' wx, (Instr.field 36 (callV A n k M' m d' KN) 0).run Try.prog wx = .ok (batV A n k M' m d') wx := fun _ _ _ => by kernel_rfl
      go_wp2_with fail
      clear HFD
      refine (kbegin_is A n k Mv1 m dv1 zs ms v1 1 Hv1.out hn hm).mono ?_
      rintro r v2 ⟨Av2, cv2, Mv2, dv2, rfl, hv2, ⟨fav2, fmv2⟩, bv2⟩
      have Hv2 := Lib.hid hv2
      have Nv2 : Hid (Fresh v1.heap.size Av2 ∧ Fresh v1.heap.size Mv2) := Lib.hid ⟨fav2, fmv2⟩
      have L_ := Lib.hid (L.out.trans (bv2.mono L.out.size))
      have KS_ := Lib.hid (kb_below KS.out bv2)
      have Hv1_ := Lib.hid (Hv1.out.below bv2)
      clear L KS Hv1
      have L := L_
      have KS := KS_
      have Hv1 := Hv1_
      clear L_ KS_ Hv1_
      clear hv2 fav2 fmv2 bv2
      go_wp2_with fail
      rw [hca]
      clear hca hN1
      refine (kfail_is Av2 n cv2 Mv2 m dv2 ⟨1, 0, 0, 1⟩ ⟨3, 1, ca, 1⟩ true zs ms v2 ca 1 rfl rfl Hv2.out hn hm (wf64_lit (k := 0) (by decide) (by decide)) (wf64_lit (k := 1) (by decide) (by decide))).mono ?_
      rintro r v3 ⟨Av3, cv3, Mv3, dv3, rfl, hv3, ⟨fav3, fmv3⟩, bv3⟩
      have Hv3 := Lib.hid hv3
      have Nv3 : Hid (Fresh v2.heap.size Av3 ∧ Fresh v2.heap.size Mv3) := Lib.hid ⟨fav3, fmv3⟩
      have L_ := Lib.hid (L.out.trans (bv3.mono L.out.size))
      have KS_ := Lib.hid (kb_below KS.out bv3)
      have Hv1_ := Lib.hid (Hv1.out.below bv3)
      have Hv2_ := Lib.hid (Hv2.out.below bv3)
      clear L KS Hv1 Hv2
      have L := L_
      have KS := KS_
      have Hv1 := Hv1_
      have Hv2 := Hv2_
      clear L_ KS_ Hv1_ Hv2_
      clear hv3 fav3 fmv3 bv3
      go_upto_region 5 with fail
      have KX : Hid ((v3.alloc (.cells #[.slice Av3 n cv3, .slice Mv3 m dv3, .int .i64 3, .int .i64 1, .int .i64 ca, .int .u64 1] 36)).heap[v3.heap.size]? = some (kobj Av3 n cv3 Mv3 m dv3 ⟨3, 1, ca, 1⟩)) := Lib.hid (heap_alloc_at v3 _)
      have bv4 : Below v3.heap.size v3 (v3.alloc (.cells #[.slice Av3 n cv3, .slice Mv3 m dv3, .int .i64 3, .int .i64 1, .int .i64 ca, .int .u64 1] 36)) := below_alloc v3 _
      have L_ := Lib.hid (L.out.trans (bv4.mono L.out.size))
      have KS_ := Lib.hid (kb_below KS.out bv4)
      have Hv1_ := Lib.hid (Hv1.out.below bv4)
      have Hv2_ := Lib.hid (Hv2.out.below bv4)
      have Hv3_ := Lib.hid (Hv3.out.below bv4)
      clear L KS Hv1 Hv2 Hv3
      have L := L_
      have KS := KS_
      have Hv1 := Hv1_
      have Hv2 := Hv2_
      have Hv3 := Hv3_
      clear L_ KS_ Hv1_ Hv2_ Hv3_
      clear bv4 Nv3
      generalize v3.alloc (.cells #[.slice Av3 n cv3, .slice Mv3 m dv3, .int .i64 3, .int .i64 1, .int .i64 ca, .int .u64 1] 36) = v4 at *
      generalize v3.heap.size = gv3 at *
      obtain ⟨s0, s1, s2, s3, s4, s5⟩ := kobj_cells KS.out
      try simp only at s2 s3 s4 s5
      go_wp2_with fail
      clear s0 s1 s2 s3 s4 s5
      refine (rsplit_any A n k M m d zs ms a2 l2 k2 vs v4 (HB.out.below L.out) (HV.out.later L.out) hm).mono ?_
      rintro r v5 ⟨P0, q0, f0, rfl, _, _, bv5⟩
      have L_ := Lib.hid (L.out.trans (bv5.mono L.out.size))
      have KS_ := Lib.hid (kb_below KS.out bv5)
      have KX_ := Lib.hid (kb_below KX.out bv5)
      have Hv1_ := Lib.hid (Hv1.out.below bv5)
      have Hv2_ := Lib.hid (Hv2.out.below bv5)
      have Hv3_ := Lib.hid (Hv3.out.below bv5)
      clear L KS KX Hv1 Hv2 Hv3
      have L := L_
      have KS := KS_
      have KX := KX_
      have Hv1 := Hv1_
      have Hv2 := Hv2_
      have Hv3 := Hv3_
      clear L_ KS_ KX_ Hv1_ Hv2_ Hv3_
      clear bv5
      have MR := Lib.hid (HB.out.mr.later L.out)
      have ML := Lib.hid (HB.out.mlen)
      have VR := Lib.hid (HV.out.later L.out)
      clear HB HV HF hn Hv1 Hv2
      cases hy : splitY zs ms vs with
      | true =>
        have HY := Lib.hid hy
        clear hy
        go_wp2
        go_loopg [12] 4 (fun g v12 wr => ∃ j : Nat, j + g = 5 ∧ 1 ≤ j ∧ v12 = .int .i64 j ∧ Below v5.heap.size v5 wr)
        case atStart => exact ⟨1, by omega, by omega, rfl, Below.refl _ _⟩
        case round =>
          obtain ⟨j, hj, hj1, rfl, hl⟩ := hrel
          have HJ := Lib.hid hj
          have HJ1 := Lib.hid hj1
          have LL := Lib.hid hl
          have KR := Lib.hid (kb_below KX.out hl)
          have SR := Lib.hid (kb_below KS.out hl)
          have BR := Lib.hid (Hv3.out.below hl)
          clear hj hj1 hl
          by_cases hj4 : j ≤ 4
          · have hj4' : (j : Int) ≤ 4 := by omega
            obtain ⟨x0, x1, x2, x3, x4, x5⟩ := kobj_cells KR.out
            try simp only at x2 x3 x4 x5
            go_wp2_with fail
            clear x0 x1 x2 x3 x4 x5
            refine (kouts_any Av3 n cv3 Mv3 m dv3 ⟨3, 1, ca, 1⟩ zs ms (j : Int) a2 l2 k2 vs 5 wr BR.out (VR.out.later LL.out) hm).mono ?_
            rintro r ws ⟨P, q, f, rfl, hr, bs⟩
            have RS := Lib.hid hr
            have LS := Lib.hid (LL.out.trans (bs.mono LL.out.size))
            have SS := Lib.hid (kb_below SR.out bs)
            have QL := Lib.hid hr.1
            have hqm0 := hr.2.1
            unfold maxLen at hqm0
            clear hr bs BR KR SR
            go_upto_region 10 with fail
            go_cut [13, 92] (fun v13 v92 wq => v13 = .slice P q f ∧ v92 = .bool false ∧ wq = ws)
            case first =>
              obtain ⟨s0, s1, s2, s3, s4, s5⟩ := kobj_cells SS.out
              clear s0 s2 s3 s4 s5 hj4'
              have hk : j = 1 ∨ j = 2 ∨ j = 3 ∨ j = 4 := by have := HJ1.out; omega
              rcases hk with hk | hk | hk | hk
              · have e1 : ((j : Int) == 1) = true := by simp; omega
                have e2 : ((j : Int) == 2) = false := by simp; omega
                have e4 : ((j : Int) == 4) = false := by simp; omega
                have hqm : ((q : Int) != (m : Int)) = false := by have h1 := QL.out; rw [outs_len13 (.inl (by omega)) HY.out, ML.out] at h1; simp; omega
                clear hk hj4
                go_wp2
                go_meet
                exact ⟨rfl, rfl, rfl⟩
              · have e1 : ((j : Int) == 1) = false := by simp; omega
                have e2 : ((j : Int) == 2) = true := by simp; omega
                have e3 : ((j : Int) == 3) = false := by simp; omega
                have e4 : ((j : Int) == 4) = false := by simp; omega
                have hq0 : q = 0 := by have h1 := QL.out; rw [show (j : Int) = 2 by omega, outs_two] at h1; exact h1.symm
                have e5 : ¬ (0 : Int) < (q : Int) := by omega
                have HQ0 := Lib.hid hq0
                clear hk hj4 hq0
                go_wp2
                go_meet
                exact ⟨by rw [HQ0.out], rfl, rfl⟩
              · have e1 : ((j : Int) == 1) = false := by simp; omega
                have e2 : ((j : Int) == 2) = false := by simp; omega
                have e3 : ((j : Int) == 3) = true := by simp; omega
                have e4 : ((j : Int) == 4) = false := by simp; omega
                have hqm : ((q : Int) != (m : Int)) = false := by have h1 := QL.out; rw [outs_len13 (.inr (by omega)) HY.out, ML.out] at h1; simp; omega
                clear hk hj4
                go_wp2
                go_meet
                exact ⟨rfl, rfl, rfl⟩
              · have e1 : ((j : Int) == 1) = false := by simp; omega
                have e2 : ((j : Int) == 2) = false := by simp; omega
                have e3 : ((j : Int) == 3) = false := by simp; omega
                have e4 : ((j : Int) == 4) = true := by simp; omega
                have hqm : ((q : Int) != (m : Int)) = false := by have h1 := QL.out; rw [show (j : Int) = 4 by omega, outs_len4, ML.out] at h1; simp; omega
                clear hk hj4
                go_wp2
                go_meet
                exact ⟨rfl, rfl, rfl⟩
            case rest =>
              obtain ⟨rfl, rfl, rfl⟩ := hcut
              go_wp2
              go_loopg [14] q (fun g v14 wx => ∃ i : Nat, i + g = q ∧ v14 = .int .i64 i ∧ Below wc.heap.size wc wx)
              case atStart => exact ⟨0, by omega, rfl, Below.refl _ _⟩
              case round =>
                obtain ⟨i, hi, rfl, hx⟩ := hrel
                have HI := Lib.hid hi
                have LX := Lib.hid hx
                clear hi
                by_cases hiq : i < q
                · have hiq' : (i : Int) < (q : Int) := by omega
                  obtain ⟨ob, oo, o, rfl, ho, hrg⟩ := (RS.out.later hx).out hiq
                  obtain ⟨p, cc, vv, hp, rfl, hmay⟩ := outs_at CB.out ho
                  have him : i < m := by have h1 := (List.getElem?_eq_some_iff.1 hp).1; have := ML.out; omega
                  obtain ⟨mb, mo, p', rfl, hp', c0, _⟩ := (MR.out.later (LS.out.trans (hx.mono LS.out.size))).pair_at him
                  obtain rfl : p = p' := Option.some.inj (hp.symm.trans hp')
                  have him' : (i : Int) < (m : Int) := by omega
                  have s1 := vobj_cell (j := 1) (kb_below SS.out hx) rfl
                  have F0 : ∀ u : Later wr, u.v.cell? ⟨w.heap.size, 1, none⟩ = some (.slice (some ⟨mb, mo, none⟩) m d) := fun u => u.cell s1
                  have F1 : ∀ u : Later wr, u.v.cell? ⟨mb, mo + i * 2, none⟩ = some (.int .i64 p.a) := fun u => u.cell c0
                  have g0 : wr.cell? ⟨ob, oo + i * 5, none⟩ = some (.int .i64 p.a) := by have := hrg 0 _ rfl; simpa using this
                  have g1 : wr.cell? ⟨ob, oo + i * 5 + 1, none⟩ = some (.int .i64 j) := by have := hrg 1 _ rfl; simpa using this
                  have g4 : wr.cell? ⟨ob, oo + i * 5 + 4, none⟩ = some (.int .u64 5) := by have := hrg 4 _ rfl; simpa using this
                  have F2 : ∀ u : Later wr, u.v.cell? ⟨ob, oo + i * 5, none⟩ = some (.int .i64 p.a) := fun u => u.cell g0
                  have F3 : ∀ u : Later wr, u.v.cell? ⟨ob, oo + i * 5 + 1, none⟩ = some (.int .i64 j) := fun u => u.cell g1
                  have F4 : ∀ u : Later wr, u.v.cell? ⟨ob, oo + i * 5 + 4, none⟩ = some (.int .u64 5) := fun u => u.cell g4
                  have RG := Lib.hid hrg
                  have HMY : Hid (∀ u : Later wr, Calls Try.prog 28 #[.agg (aggV (Ot.mk p.a j cc vv 5).vals)] u.v fun r w' => r = .returned (.bool true) ∧ Below u.v.heap.size u.v w') := Lib.hid (fun u => by
                    have := omay_any (Ot.mk p.a j cc vv 5) u.v
                    rwa [hmay] at this)
                  clear hx ho hrg hp hmay hp' c0 s1 g0 g1 g4
                  go_wp2
                  refine wp_region_later (by kernel_rfl) (by kernel_rfl) ?_
                  repeat (first
                    | (refine wpQuiet_load_out rfl _ rfl ob (oo + i * 5) rfl (Ot.mk p.a j cc vv 5) RG.out ?_; simp only [Act.put, List.setIfInBounds_toArray, List.set_cons_zero, List.set_cons_succ])
                    | go_big_quiet_step (first | (go_at_call 28; with_reducible exact Calls.later_of (HMY.out _))))
                  refine wpQuiet_nil ?_
                  rintro _ ⟨⟨w10, b10⟩, rfl⟩
                  have B10 := Lib.hid b10
                  clear b10 F0 F1 F2 F3 F4
                  go_wp2
                  go_roundg (q - (i + 1))
                  case measure => have := HI.out; omega
                  case rel => exact ⟨i + 1, by omega, by simp, LX.out.trans (B10.out.mono LX.out.size)⟩
                · have hiq' : ¬ (i : Int) < (q : Int) := by omega
                  clear hx
                  go_wp2
                  go_roundg (5 - (j + 1))
                  case measure => have := HJ.out; omega
                  case rel => exact ⟨j + 1, by omega, by omega, by simp, LS.out.trans (LX.out.mono LS.out.size)⟩
          · have hj4' : ¬ (j : Int) ≤ 4 := by omega
            go_wp2
            go_ret
            exact ⟨rfl, L.out.trans (LL.out.mono L.out.size)⟩
      | false =>
        have HY := Lib.hid hy
        clear hy
        go_wp2
        go_loopg [12] 4 (fun g v12 wr => ∃ j : Nat, j + g = 5 ∧ 1 ≤ j ∧ v12 = .int .i64 j ∧ Below v5.heap.size v5 wr)
        case atStart => exact ⟨1, by omega, by omega, rfl, Below.refl _ _⟩
        case round =>
          obtain ⟨j, hj, hj1, rfl, hl⟩ := hrel
          have HJ := Lib.hid hj
          have HJ1 := Lib.hid hj1
          have LL := Lib.hid hl
          have KR := Lib.hid (kb_below KX.out hl)
          have SR := Lib.hid (kb_below KS.out hl)
          have BR := Lib.hid (Hv3.out.below hl)
          clear hj hj1 hl
          by_cases hj4 : j ≤ 4
          · have hj4' : (j : Int) ≤ 4 := by omega
            obtain ⟨x0, x1, x2, x3, x4, x5⟩ := kobj_cells KR.out
            try simp only at x2 x3 x4 x5
            go_wp2_with fail
            clear x0 x1 x2 x3 x4 x5
            refine (kouts_any Av3 n cv3 Mv3 m dv3 ⟨3, 1, ca, 1⟩ zs ms (j : Int) a2 l2 k2 vs 5 wr BR.out (VR.out.later LL.out) hm).mono ?_
            rintro r ws ⟨P, q, f, rfl, hr, bs⟩
            have RS := Lib.hid hr
            have LS := Lib.hid (LL.out.trans (bs.mono LL.out.size))
            have SS := Lib.hid (kb_below SR.out bs)
            have QL := Lib.hid hr.1
            have hqm0 := hr.2.1
            unfold maxLen at hqm0
            clear hr bs BR KR SR
            go_upto_region 10 with fail
            go_cut [13, 92] (fun v13 v92 wq => v13 = .slice P q f ∧ v92 = .bool false ∧ wq = ws)
            case first =>
              obtain ⟨s0, s1, s2, s3, s4, s5⟩ := kobj_cells SS.out
              clear s0 s2 s3 s4 s5 hj4'
              have hk : j = 1 ∨ j = 2 ∨ j = 3 ∨ j = 4 := by have := HJ1.out; omega
              rcases hk with hk | hk | hk | hk
              · have e1 : ((j : Int) == 1) = true := by simp; omega
                have e2 : ((j : Int) == 2) = false := by simp; omega
                have e4 : ((j : Int) == 4) = false := by simp; omega
                clear hk hj4
                go_wp2
                go_meet
                exact ⟨rfl, rfl, rfl⟩
              · have e1 : ((j : Int) == 1) = false := by simp; omega
                have e2 : ((j : Int) == 2) = true := by simp; omega
                have e3 : ((j : Int) == 3) = false := by simp; omega
                have e4 : ((j : Int) == 4) = false := by simp; omega
                have hq0 : q = 0 := by have h1 := QL.out; rw [show (j : Int) = 2 by omega, outs_two] at h1; exact h1.symm
                have e5 : ¬ (0 : Int) < (q : Int) := by omega
                have HQ0 := Lib.hid hq0
                clear hk hj4 hq0
                go_wp2
                go_meet
                exact ⟨by rw [HQ0.out], rfl, rfl⟩
              · have e1 : ((j : Int) == 1) = false := by simp; omega
                have e2 : ((j : Int) == 2) = false := by simp; omega
                have e3 : ((j : Int) == 3) = true := by simp; omega
                have e4 : ((j : Int) == 4) = false := by simp; omega
                clear hk hj4
                go_wp2
                go_meet
                exact ⟨rfl, rfl, rfl⟩
              · have e1 : ((j : Int) == 1) = false := by simp; omega
                have e2 : ((j : Int) == 2) = false := by simp; omega
                have e3 : ((j : Int) == 3) = false := by simp; omega
                have e4 : ((j : Int) == 4) = true := by simp; omega
                have hqm : ((q : Int) != (m : Int)) = false := by have h1 := QL.out; rw [show (j : Int) = 4 by omega, outs_len4, ML.out] at h1; simp; omega
                clear hk hj4
                go_wp2
                go_meet
                exact ⟨rfl, rfl, rfl⟩
            case rest =>
              obtain ⟨rfl, rfl, rfl⟩ := hcut
              go_wp2
              go_loopg [14] q (fun g v14 wx => ∃ i : Nat, i + g = q ∧ v14 = .int .i64 i ∧ Below wc.heap.size wc wx)
              case atStart => exact ⟨0, by omega, rfl, Below.refl _ _⟩
              case round =>
                obtain ⟨i, hi, rfl, hx⟩ := hrel
                have HI := Lib.hid hi
                have LX := Lib.hid hx
                clear hi
                by_cases hiq : i < q
                · have hiq' : (i : Int) < (q : Int) := by omega
                  obtain ⟨ob, oo, o, rfl, ho, hrg⟩ := (RS.out.later hx).out hiq
                  obtain ⟨p, cc, vv, hp, rfl, hmay⟩ := outs_at CB.out ho
                  have him : i < m := by have h1 := (List.getElem?_eq_some_iff.1 hp).1; have := ML.out; omega
                  obtain ⟨mb, mo, p', rfl, hp', c0, _⟩ := (MR.out.later (LS.out.trans (hx.mono LS.out.size))).pair_at him
                  obtain rfl : p = p' := Option.some.inj (hp.symm.trans hp')
                  have him' : (i : Int) < (m : Int) := by omega
                  have s1 := vobj_cell (j := 1) (kb_below SS.out hx) rfl
                  have F0 : ∀ u : Later wr, u.v.cell? ⟨w.heap.size, 1, none⟩ = some (.slice (some ⟨mb, mo, none⟩) m d) := fun u => u.cell s1
                  have F1 : ∀ u : Later wr, u.v.cell? ⟨mb, mo + i * 2, none⟩ = some (.int .i64 p.a) := fun u => u.cell c0
                  have g0 : wr.cell? ⟨ob, oo + i * 5, none⟩ = some (.int .i64 p.a) := by have := hrg 0 _ rfl; simpa using this
                  have g1 : wr.cell? ⟨ob, oo + i * 5 + 1, none⟩ = some (.int .i64 j) := by have := hrg 1 _ rfl; simpa using this
                  have g4 : wr.cell? ⟨ob, oo + i * 5 + 4, none⟩ = some (.int .u64 5) := by have := hrg 4 _ rfl; simpa using this
                  have F2 : ∀ u : Later wr, u.v.cell? ⟨ob, oo + i * 5, none⟩ = some (.int .i64 p.a) := fun u => u.cell g0
                  have F3 : ∀ u : Later wr, u.v.cell? ⟨ob, oo + i * 5 + 1, none⟩ = some (.int .i64 j) := fun u => u.cell g1
                  have F4 : ∀ u : Later wr, u.v.cell? ⟨ob, oo + i * 5 + 4, none⟩ = some (.int .u64 5) := fun u => u.cell g4
                  have RG := Lib.hid hrg
                  have HMY : Hid (∀ u : Later wr, Calls Try.prog 28 #[.agg (aggV (Ot.mk p.a j cc vv 5).vals)] u.v fun r w' => r = .returned (.bool true) ∧ Below u.v.heap.size u.v w') := Lib.hid (fun u => by
                    have := omay_any (Ot.mk p.a j cc vv 5) u.v
                    rwa [hmay] at this)
                  clear hx ho hrg hp hmay hp' c0 s1 g0 g1 g4
                  go_wp2
                  refine wp_region_later (by kernel_rfl) (by kernel_rfl) ?_
                  repeat (first
                    | (refine wpQuiet_load_out rfl _ rfl ob (oo + i * 5) rfl (Ot.mk p.a j cc vv 5) RG.out ?_; simp only [Act.put, List.setIfInBounds_toArray, List.set_cons_zero, List.set_cons_succ])
                    | go_big_quiet_step (first | (go_at_call 28; with_reducible exact Calls.later_of (HMY.out _))))
                  refine wpQuiet_nil ?_
                  rintro _ ⟨⟨w10, b10⟩, rfl⟩
                  have B10 := Lib.hid b10
                  clear b10 F0 F1 F2 F3 F4
                  go_wp2
                  go_roundg (q - (i + 1))
                  case measure => have := HI.out; omega
                  case rel => exact ⟨i + 1, by omega, by simp, LX.out.trans (B10.out.mono LX.out.size)⟩
                · have hiq' : ¬ (i : Int) < (q : Int) := by omega
                  clear hx
                  go_wp2
                  go_roundg (5 - (j + 1))
                  case measure => have := HJ.out; omega
                  case rel => exact ⟨j + 1, by omega, by omega, by simp, LS.out.trans (LX.out.mono LS.out.size)⟩
          · have hj4' : ¬ (j : Int) ≤ 4 := by omega
            go_wp2
            go_ret
            exact ⟨rfl, L.out.trans (LL.out.mono L.out.size)⟩

set_option maxRecDepth 100000 in
theorem lifted (os : Os) (started : os.Started) (H : Type) (enc : TypeId × Value → H) :
    ReturnsInHanded {} Try.checked os 7 .any (Rows.callMaySpec.pre6 enc Try.prog Try.f7 Rows.callMayRow.domain false) (Rows.callMaySpec.post enc Try.prog Try.f7 false true false false) := by
  refine returnsInHanded_of_change_sized (C := Try.checked) own started (by kernel_rfl) Try.func7
    (ChangeSpec.witness6 (enc := enc) (C := Try.checked) false ⟨#[], #[.agg #[.slice none 0 0, .slice none 0 0, .int .i64 0, .int .i64 0, .int .i64 0, .int .u64 0], .int .u8 0, .slice none 0 0], []⟩ 8 (by kernel_rfl) (by kernel_rfl) (by kernel_rfl) (by kernel_rfl)) ?_
  intro W base args ds gs before hval0 hW hcnd hsz0 _
  have hval : ∀ (j : Nat) t v, Try.f7.params[j]? = some t → args[j]? = some v → Value.okWide Try.prog W .any base t v := hval0
  have hsz : (DataW.weightsEach Try.prog (Try.f7.params.toList ++ Rows.callMaySpec.plain.varTypes Try.prog) (ds ++ gs)).all (· ≤ reachBytes) = true := hsz0
  have hW' := hW
  obtain ⟨p, q, hA0, hV, rfl, hfz, hnd⟩ := hW
  have hA : DataW.TrodAll enc Try.prog W 0 (fun _ => true) true Try.f7.params.toList args.toList ds p := hA0
  rw [Try.params7] at hA hval hsz
  have hAk := hA
  obtain ⟨v0, vs0, d0, ds0, p0, q0, hargs, rfl, rfl, h0, r0⟩ := trodAll_cons hA
  obtain ⟨v1, vs1, d1, ds1, p1, q1, rfl, rfl, rfl, h1, r1⟩ := trodAll_cons r0
  obtain ⟨v2, vs2, d2, ds2, p2, q2, rfl, rfl, rfl, h2, r2⟩ := trodAll_cons r1
  obtain ⟨rfl, rfl, rfl⟩ := trodAll_nil r2
  obtain rfl : args = #[v0, v1, v2] := by cases args; simp_all
  obtain ⟨rfl, rfl⟩ := trodVars_none hV
  obtain ⟨c0, rfl, w0⟩ := open_shape (ss := [.row [.int .i64] 8, .row [.int .i64, .int .i64] 16, .lit (.int .i64), .lit (.int .i64), .lit (.int .i64), .lit (.int .u64)]) 8 (by kernel_rfl) (by kernel_rfl) (hval 0 28 v0 rfl rfl) h0 hsz 0 rfl rfl
  obtain ⟨a1, rfl, rfl, rfl, w1⟩ := open_int Try.underlying5 (hval 1 5 v1 rfl rfl) h1
  obtain ⟨a2, l2, k2, L2, rfl, w2⟩ := open_slice_flat (ks := [.int .i64]) (bytes := 8) 8 Try.underlying22 (by kernel_rfl) (by kernel_rfl) (by decide) (by kernel_rfl) (hval 2 22 v2 rfl rfl) h2 (fun elems rest hd => by subst hd; exact sized_slice hsz (j := 2) (t := 22) (e := 3) rfl rfl Try.underlying22)
  clear hA0 hval0 hsz0
  refine (walk W c0 w0 a1 w1 a2 l2 k2 L2 w2).mono fun e W' ⟨he, bel⟩ => ?_
  subst he
  exact ⟨_, rfl, _, _, _, [], _, [], hW', trodAll_mk1 (shut_bool Try.underlying4 _), trodAll_below laidOut bel _ _ _ _ (by kernel_rfl) hAk, rfl, bel.frame _, fun h => by cases h⟩

theorem over : Rows.callMayRow.holds Try.pinned (OpenSpec.ofChange Rows.callMaySpec) :=
  OpenClaim.holds_of_wide 7 Try.f7 rfl rfl rfl rfl rfl rfl rfl ⟨rfl, rfl, rfl, rfl, rfl⟩ rfl rfl rfl rfl rfl (by kernel_rfl) Try.func7 (by kernel_rfl)
    (of_decide_eq_true (by kernel_rfl)) (by unfold Func.isWrapper; first | (rw [if_pos (by decide +kernel)]; kernel_rfl) | (rw [if_neg (by decide +kernel)]; exact ⟨rfl, rfl⟩))
    (fun os started H enc _ => lifted os started H enc)

theorem proved : Rows.CallMaySaid := over
#print axioms proved
end Go.Proofs.Ytpfmjocpgnoepaa.callMay
