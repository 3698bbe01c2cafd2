/- What is proved: WheelFires of porpoiselaw03 answers true for every input, and leaves its arguments as they were; conditions: those of the given row alone. -/
import Derived.Test.YtgpebbopggmgbaaKit
import Derived.Test.YtgpebbopggmgbaaPut03
namespace Go.Proofs.Ytgpebbopggmgbaa.wheelFires
open Go.ChangeShapes Go.WideShapes Go.ChangeAt Go.RowKit Go.Deep
open Go.ChangeMaps (open_string shut_string)
set_option linter.unusedVariables false

theorem own : ownKnob Try.prog.godebug = none := by kernel_rfl
theorem laidOut : laidOutB Try.prog = true := by kernel_rfl

/-- In the turn in which they are due, and then in that of their numbers. -/
def Turn (V : List Ent) : Prop := V.Pairwise (fun a b => a.d < b.d ∨ a.d = b.d ∧ a.i < b.i)
theorem turn_ins {e : Ent} : ∀ {V : List Ent}, Turn V → (∀ x ∈ V, x.i < e.i) → Turn (ins e V)
  | [], _, _ => by simp [Turn, ins]
  | x :: xs, h, hi => by
    obtain ⟨h1, h2⟩ := List.pairwise_cons.1 h
    have hu : ins e (x :: xs) = if e.d < x.d then e :: x :: xs else x :: ins e xs := rfl
    rw [hu]
    split
    · rename_i hlt
      refine List.pairwise_cons.2 ⟨fun y hy => ?_, h⟩
      rcases List.mem_cons.1 hy with rfl | hy
      · exact .inl hlt
      · rcases h1 y hy with h3 | h3
        · exact .inl (by omega)
        · exact .inl (by omega)
    · rename_i hge
      refine List.pairwise_cons.2 ⟨fun y hy => ?_, turn_ins h2 (fun z hz => hi z (by simp [hz]))⟩
      rcases mem_ins.1 hy with rfl | hy
      · have := hi x (by simp)
        by_cases he : x.d = y.d
        · exact .inr ⟨he, this⟩
        · exact .inl (by omega)
      · exact h1 y hy
theorem seqV_turn (now : Int) (zs : List Int) : ∀ n, Turn (seqV now zs n)
  | 0 => List.Pairwise.nil
  | n + 1 => by
    refine turn_ins (seqV_turn now zs n) (fun x hx => ?_)
    obtain ⟨j, hj, rfl⟩ := seqV_mem.1 hx
    show (j : Int) < n
    omega
def cnt (tt : Int) (V : List Ent) : Nat := V.countP (fun x => decide (x.d ≤ tt))
theorem cnt_ins (tt : Int) (e : Ent) (V : List Ent) : cnt tt (ins e V) = cnt tt V + (if e.d ≤ tt then 1 else 0) := by
  unfold cnt
  rw [(ins_perm e V).countP_eq, List.countP_cons]
  simp
theorem cnt_split {tt : Int} {P R : List Ent} (hP : ∀ p ∈ P, p.d ≤ tt) (hR : ∀ r ∈ R, tt < r.d) : cnt tt (P ++ R) = P.length := by
  unfold cnt
  rw [List.countP_append, List.countP_eq_length.2 (fun p hp => by simpa using hP p hp), List.countP_eq_zero.2 (fun r hr => by have := hR r hr; simp; omega)]
  rfl
theorem farD_min (now z : Int) : farD now z = now + (if 18446744073709551615 - now < z then 18446744073709551615 - now else z) := rfl
/-- What is kept of the timers that came. -/
def Came (now : Int) (P : List Ent) (lst idv : Int) : Prop := (P = [] ∧ lst = 0 ∧ idv = -1) ∨ ∃ P' p, P = P' ++ [p] ∧ lst = p.d - now ∧ idv = p.i

set_option maxRecDepth 100000 in
set_option maxHeartbeats 2000000 in
theorem walk (w : World) (a0 : Int) (w0 : (Lit.int .u64 a0).wf = true) (a1 : Option Addr) (l1 k1 : Nat) (L1 : List (List Value)) (w1 : SliceIn w [.int .u64] 8 a1 l1 k1 L1) (a2 : Int) (w2 : (Lit.int .u64 a2).wf = true) :
    Calls Try.prog 4 #[.int .u64 a0, .slice a1 l1 k1, .int .u64 a2] w fun e w' => e = .returned (.bool true) ∧ Below w.heap.size w w' := by
  have b0 := wf_u64 w0
  have b2 := wf_u64 w2
  obtain ⟨zs, hzl, hrow⟩ := w1.row
  have hlc := w1.2.2.1
  have hcm := w1.2.2.2.2.1
  clear w0 w1 w2
  obtain ⟨n, hn⟩ : ∃ n, (if 60 < l1 then 60 else l1) = n := ⟨_, rfl⟩
  have hn' : n ≤ l1 ∧ n ≤ 60 ∧ (n < 60 → n = l1) := by rw [← hn]; split <;> omega
  have hml := hrow.2.1
  unfold maxLen at hml
  obtain ⟨q, hq⟩ : ∃ q, (if 18446744073709551615 - a0 < a2 then 18446744073709551615 - a0 else a2) = q := ⟨_, rfl⟩
  have hqb : 0 ≤ q ∧ q ≤ 18446744073709551615 - a0 := by rw [← hq]; split <;> omega
  have HROW := Lib.hid hrow
  clear hrow
  go_enter Try.func4, Try.ntmps4
  go_wp2_with fail
  refine (awake_any _).mono ?_
  rintro e wa ⟨rfl, hba⟩
  have hpu := put_any a1 l1 k1 a0 zs wa (HROW.out.later hba) hzl b0.1 b0.2
  rw [hn] at hpu
  have HBA := Lib.hid hba
  clear hba
  go_wp2_with fail
  refine hpu.mono ?_
  clear hpu
  rintro e wb ⟨b, rfl, m, L0, ho, hL0⟩
  have OB := Lib.hid (ho.lift HBA.out)
  have HL0 := Lib.hid hL0
  have HN := Lib.hid hn
  clear ho hL0 hn
  go_wp2
  go_loopg [11, 12, 13, 14] n (fun k v11 v12 v13 v14 wr => ∃ (P L : List Ent) (lst idv nw : Int), L.length = k ∧ seqV a0 zs n = P ++ L.map vw ∧ v11 = .int .u64 lst ∧ v12 = .int .i64 idv ∧ v13 = .int .i64 P.length ∧ v14 = .int .i64 P.length ∧
    Came a0 P lst idv ∧ (∀ p ∈ P, p.d ≤ a0 + q) ∧ nw ≤ a0 + q ∧ Own w wr b m nw L)
  case atStart =>
    refine ⟨[], L0, 0, -1, a0, ?_, by rw [← HL0.out]; rfl, rfl, rfl, rfl, rfl, .inl ⟨rfl, rfl, rfl⟩, by simp, by omega, OB.out⟩
    have := congrArg List.length HL0.out
    rwa [List.length_map, seqV_length] at this
  case round =>
    obtain ⟨P, L, lst, idv, nw, hk, hV, rfl, rfl, rfl, rfl, hcame, hP, hnw, ho⟩ := hrel
    have hlenV : P.length + L.length = n := by
      have := congrArg List.length hV
      rw [seqV_length, List.length_append, List.length_map] at this
      omega
    have hP61 : (P.length : Int) < 61 := by omega
    have KK := Lib.hid hk
    have VV := Lib.hid hV
    have CC := Lib.hid hcame
    have PP := Lib.hid hP
    have OO := Lib.hid ho
    clear hk hV hcame hP ho OB HL0
    by_cases hall : ∀ e ∈ L, a0 + q < e.d
    · have hst := own_step_none w b m nw (a0 + q) L wr OO.out hnw (by omega) hall
      have HALL := Lib.hid hall
      clear hall
      go_wp2_with fail
      refine hst.mono ?_
      clear hst
      rintro e wc ⟨rfl, _, oc⟩
      have OC := Lib.hid (oc.alloc (tobj 0 0))
      clear oc
      go_wp2
      generalize hwd : wc.alloc (tobj 0 0) = wd at OC
      go_loopg [18, 19] n (fun k v18 v19 wq => ∃ j : Nat, j + k = n ∧ v18 = .int .i64 (cnt (a0 + q) (seqV a0 zs j) : Nat) ∧ v19 = .int .i64 j ∧ wq = wd)
      case atStart => exact ⟨0, by omega, rfl, rfl, rfl⟩
      case round =>
        obtain ⟨j, hj, rfl, rfl, rfl⟩ := hrel
        have hcb : cnt (a0 + q) (seqV a0 zs j) ≤ j := by
          have := List.countP_le_length (p := fun x : Ent => decide (x.d ≤ a0 + q)) (l := seqV a0 zs j)
          rwa [seqV_length] at this
        by_cases hjn : j < n
        · have hj1 : (j : Int) < l1 := by omega
          have hj2 : (j : Int) < 60 := by omega
          obtain ⟨zb, off, ha, hc⟩ : ∃ zb off, a1 = some ⟨zb, off, none⟩ ∧ w.cell? ⟨zb, off + j, none⟩ = some (.int .u64 (zs.getD j 0)) := by
            rcases HROW.out.2.2.1 with h | ⟨zb, off, ha, hc⟩
            · omega
            · exact ⟨zb, off, ha, hc j (by omega)⟩
          subst ha
          have hwf := wf_u64 (wf_getD HROW.out.2.2.2 (j := j) (by omega))
          have hcc := (OC.out.low.cell (cell_lt hc)).trans hc
          obtain ⟨z, hz⟩ : ∃ z, z = zs.getD j 0 := ⟨_, rfl⟩
          rw [← hz] at hwf hcc
          obtain ⟨p, hp⟩ : ∃ p, (if 18446744073709551615 - a0 < z then 18446744073709551615 - a0 else z) = p := ⟨_, rfl⟩
          have hpb : 0 ≤ p ∧ p ≤ 18446744073709551615 - a0 := by rw [← hp]; split <;> omega
          have hstep : cnt (a0 + q) (seqV a0 zs (j + 1)) = cnt (a0 + q) (seqV a0 zs j) + (if p ≤ q then 1 else 0) := by
            rw [seqV, cnt_ins]
            have : (oneV a0 zs j).d = a0 + p := by rw [oneV, farD, ← hz, hp]
            rw [this]
            congr 1
            by_cases h : p ≤ q
            · rw [if_pos h, if_pos (by omega)]
            · rw [if_neg h, if_neg (by omega)]
          have HST := Lib.hid hstep
          have HJ := Lib.hid hj
          generalize cnt (a0 + q) (seqV a0 zs j) = c at *
          clear hstep hj hz hc
          by_cases hle : p ≤ q
          · have hle' : p ≤ a0 + q - a0 := by omega
            have HLE := Lib.hid hle
            go_wp2
            go_roundg (gk - 1)
            case measure => have := HJ.out; omega
            case rel =>
              refine ⟨j + 1, by have := HJ.out; omega, ?_, by simp, rfl⟩
              rw [HST.out, if_pos HLE.out]
              simp
          · have hle' : ¬ p ≤ a0 + q - a0 := by omega
            have HLE := Lib.hid hle
            go_wp2
            go_roundg (gk - 1)
            case measure => have := HJ.out; omega
            case rel =>
              refine ⟨j + 1, by have := HJ.out; omega, ?_, by simp, rfl⟩
              rw [HST.out, if_neg (by have := HLE.out; omega)]
              simp
        · have hjn' : j = n := by omega
          have hcnt : cnt (a0 + q) (seqV a0 zs j) = P.length := by
            rw [hjn', VV.out]
            refine cnt_split PP.out (fun r hr => ?_)
            obtain ⟨e, he, rfl⟩ := List.mem_map.1 hr
            exact HALL.out e he
          rw [hcnt]
          have hmin : (if (60 : Int) < (l1 : Int) then (60 : Int) else (l1 : Int)) = (n : Int) := by rw [← HN.out]; split <;> split <;> omega
          have hsub : (n : Int) - P.length = L.length := by omega
          have hno := now_whl b m (a0 + q) L _ OC.out.whl
          have hle := len_whl b m (a0 + q) L _ OC.out.whl
          have HJN := Lib.hid hjn'
          clear hcnt hcb hjn' hj
          by_cases hjl : (j : Int) < l1
          · have hj60 : ¬ (j : Int) < 60 := by have := HJN.out; omega
            go_wp2_with (first | (go_at_call 17; refine hno.mono ?_; rintro e _ ⟨rfl, rfl⟩) | (go_at_call 18; refine hle.mono ?_; rintro e _ ⟨rfl, rfl⟩))
            go_ret
            exact ⟨ret_bool (by have := HJN.out; simp; omega), OC.out.low⟩
          · go_wp2_with (first | (go_at_call 17; refine hno.mono ?_; rintro e _ ⟨rfl, rfl⟩) | (go_at_call 18; refine hle.mono ?_; rintro e _ ⟨rfl, rfl⟩))
            go_ret
            exact ⟨ret_bool (by simp), OC.out.low⟩
    · obtain ⟨e, l, rfl, hed⟩ : ∃ e l, L = e :: l ∧ e.d ≤ a0 + q := by
        cases L with
        | nil => exact absurd (by simp) hall
        | cons e l =>
          refine ⟨e, l, rfl, ?_⟩
          by_cases hc : e.d ≤ a0 + q
          · exact hc
          · refine absurd (fun x hx => ?_) hall
            rcases List.mem_cons.1 hx with rfl | hx
            · omega
            · have := (List.pairwise_cons.1 OO.out.whl.sorted).1 x hx
              omega
      clear hall
      have hturn := seqV_turn a0 zs n
      rw [VV.out] at hturn
      obtain ⟨j, hjn, hje⟩ : ∃ j, j < n ∧ vw e = oneV a0 zs j := seqV_mem.1 (by rw [VV.out]; simp)
      obtain ⟨g, ek, ei, ed⟩ := e
      simp only [vw, oneV, Ent.mk.injEq, true_and] at hje
      obtain ⟨rfl, rfl, hfd⟩ := hje
      have hj1 : (j : Int) < l1 := by omega
      have hj0 : (0 : Int) ≤ (j : Int) := by omega
      obtain ⟨zb, off, ha, hc⟩ : ∃ zb off, a1 = some ⟨zb, off, none⟩ ∧ w.cell? ⟨zb, off + j, none⟩ = some (.int .u64 (zs.getD j 0)) := by
        rcases HROW.out.2.2.1 with h | ⟨zb, off, ha, hc⟩
        · omega
        · exact ⟨zb, off, ha, hc j (by omega)⟩
      subst ha
      have hwf := wf_u64 (wf_getD HROW.out.2.2.2 (j := j) (by omega))
      obtain ⟨z, hz⟩ : ∃ z, z = zs.getD j 0 := ⟨_, rfl⟩
      rw [← hz] at hwf hc hfd
      rw [farD] at hfd
      obtain ⟨p, hp⟩ : ∃ p, (if 18446744073709551615 - a0 < z then 18446744073709551615 - a0 else z) = p := ⟨_, rfl⟩
      rw [hp] at hfd
      subst hfd
      have hpb : 0 ≤ p ∧ p ≤ 18446744073709551615 - a0 := by rw [← hp]; split <;> omega
      simp only at hed
      have hpq : ¬ q < p := by omega
      have hst := own_step_some w b m nw (a0 + q) _ l wr OO.out hed (by omega)
      simp only at hst
      have hnext : ∀ wc, Own w wc b m (a0 + p) l → ∃ (P_1 L_1 : List Ent) (lst_1 idv_1 nw_1 : Int), L_1.length = l.length ∧ seqV a0 zs n = P_1 ++ L_1.map vw ∧ Value.int .u64 p = .int .u64 lst_1 ∧ Value.int .i64 (j : Int) = .int .i64 idv_1 ∧
          Value.int .i64 ((P.length : Int) + 1) = .int .i64 P_1.length ∧ Value.int .i64 ((P.length : Int) + 1) = .int .i64 P_1.length ∧ Came a0 P_1 lst_1 idv_1 ∧ (∀ p ∈ P_1, p.d ≤ a0 + q) ∧ nw_1 ≤ a0 + q ∧ Own w wc b m nw_1 L_1 := fun wc hoc => by
        refine ⟨P ++ [⟨0, 1, j, a0 + p⟩], l, p, j, a0 + p, rfl, by rw [VV.out]; simp [vw], rfl, rfl, by simp, by simp, .inr ⟨P, _, rfl, by simp only; omega, rfl⟩, fun x hx => ?_, by omega, hoc⟩
        rcases List.mem_append.1 hx with hx | hx
        · exact PP.out x hx
        · obtain rfl : x = ⟨0, 1, j, a0 + p⟩ := by simpa using hx
          exact hed
      have NX := Lib.hid hnext
      have HZ := Lib.hid hz
      have hlow : ∀ wc, Below w.heap.size w wc → wc.cell? ⟨zb, off + j, none⟩ = some (.int .u64 z) := fun wc hb => (hb.cell (cell_lt hc)).trans hc
      have LOW := Lib.hid hlow
      have hlast : lst ≤ p ∧ (P ≠ [] → p = lst → idv < j) := by
        rcases CC.out with ⟨rfl, rfl, rfl⟩ | ⟨P', pp, rfl, rfl, rfl⟩
        · exact ⟨hpb.1, fun h => absurd rfl h⟩
        · have ht := (List.pairwise_append.1 hturn).2.2 pp (by simp) ⟨0, 1, j, a0 + p⟩ (by simp [vw])
          simp only at ht
          exact ⟨by omega, fun _ _ => by omega⟩
      have HLA := Lib.hid hlast
      have hlp : ¬ p < lst := by omega
      clear hc hz hnext hlow hturn hlast hed hjn
      go_wp2_with fail
      refine hst.mono ?_
      clear hst
      rintro e wc ⟨rfl, _, oc⟩
      have hcell := LOW.out _ (oc.alloc (tobj 1 j)).low
      have OC := Lib.hid (oc.alloc (tobj 1 j))
      clear oc
      by_cases hP0 : P = []
      · have hPl : (P.length : Int) = 0 := by simp [hP0]
        clear hP0
        go_wp2
        go_roundg l.length
        case measure => have := KK.out; simp at this; omega
        case rel =>
          have := NX.out _ OC.out
          rw [hPl, show (0 : Int) + 1 = 1 from rfl] at this
          exact this
      · have hPl : (0 : Int) < (P.length : Int) := by
          cases P with
          | nil => exact absurd rfl hP0
          | cons x xs => simp
        by_cases heq : p = lst
        · have hid : ¬ (j : Int) < idv := by have := HLA.out.2 hP0 heq; omega
          have hbe : (p == lst) = true := by simp [heq]
          clear hP0 heq
          go_wp2
          go_roundg l.length
          case measure => have := KK.out; simp at this; omega
          case rel => exact NX.out _ OC.out
        · have hbe : (p == lst) = false := by simp [heq]
          clear hP0 heq
          go_wp2
          go_roundg l.length
          case measure => have := KK.out; simp at this; omega
          case rel => exact NX.out _ OC.out

set_option maxRecDepth 100000 in
theorem lifted (os : Os) (started : os.Started) (H : Type) (enc : TypeId × Value → H) :
    ReturnsInHanded {} Try.checked os 4 .any (Rows.wheelFiresSpec.pre6 enc Try.prog Try.f4 Rows.wheelFiresRow.domain false) (Rows.wheelFiresSpec.post enc Try.prog Try.f4 false true false false) := by
  refine returnsInHanded_of_change_sized (C := Try.checked) own started (by kernel_rfl) Try.func4
    (ChangeSpec.witness6 (enc := enc) (C := Try.checked) false ⟨#[], #[.int .u64 0, .slice none 0 0, .int .u64 0], []⟩ 8 (by kernel_rfl) (by kernel_rfl) (by kernel_rfl) (by kernel_rfl)) ?_
  intro W base args ds gs before hval0 hW hcnd hsz0 _
  have hval : ∀ (j : Nat) t v, Try.f4.params[j]? = some t → args[j]? = some v → Value.okWide Try.prog W .any base t v := hval0
  have hsz : (DataW.weightsEach Try.prog (Try.f4.params.toList ++ Rows.wheelFiresSpec.plain.varTypes Try.prog) (ds ++ gs)).all (· ≤ reachBytes) = true := hsz0
  have hW' := hW
  obtain ⟨p, q, hA0, hV, rfl, hfz, hnd⟩ := hW
  have hA : DataW.TrodAll enc Try.prog W 0 (fun _ => true) true Try.f4.params.toList args.toList ds p := hA0
  rw [Try.params4] at hA hval hsz
  have hAk := hA
  obtain ⟨v0, vs0, d0, ds0, p0, q0, hargs, rfl, rfl, h0, r0⟩ := trodAll_cons hA
  obtain ⟨v1, vs1, d1, ds1, p1, q1, rfl, rfl, rfl, h1, r1⟩ := trodAll_cons r0
  obtain ⟨v2, vs2, d2, ds2, p2, q2, rfl, rfl, rfl, h2, r2⟩ := trodAll_cons r1
  obtain ⟨rfl, rfl, rfl⟩ := trodAll_nil r2
  obtain rfl : args = #[v0, v1, v2] := by cases args; simp_all
  obtain ⟨rfl, rfl⟩ := trodVars_none hV
  obtain ⟨a0, rfl, rfl, rfl, w0⟩ := open_int Try.underlying22 (hval 0 22 v0 rfl rfl) h0
  obtain ⟨a1, l1, k1, L1, rfl, w1⟩ := open_slice_flat (ks := [.int .u64]) (bytes := 8) 8 Try.underlying41 (by kernel_rfl) (by kernel_rfl) (by decide) (by kernel_rfl) (hval 1 41 v1 rfl rfl) h1 (fun elems rest hd => by subst hd; exact sized_slice hsz (j := 1) (t := 41) (e := 22) rfl rfl Try.underlying41)
  obtain ⟨a2, rfl, rfl, rfl, w2⟩ := open_int Try.underlying22 (hval 2 22 v2 rfl rfl) h2
  clear hA0 hval0 hsz0
  refine (walk W a0 w0 a1 l1 k1 L1 w1 a2 w2).mono fun e W' ⟨he, bel⟩ => ?_
  subst he
  exact ⟨_, rfl, _, _, _, [], _, [], hW', trodAll_mk1 (shut_bool Try.underlying4 _), trodAll_below laidOut bel _ _ _ _ (by kernel_rfl) hAk, rfl, bel.frame _, fun h => by cases h⟩

theorem over : Rows.wheelFiresRow.holds Try.pinned (OpenSpec.ofChange Rows.wheelFiresSpec) :=
  OpenClaim.holds_of_wide 4 Try.f4 rfl rfl rfl rfl rfl rfl rfl ⟨rfl, rfl, rfl, rfl, rfl⟩ rfl rfl rfl rfl rfl (by kernel_rfl) Try.func4 (by kernel_rfl)
    (of_decide_eq_true (by kernel_rfl)) (by unfold Func.isWrapper; first | (rw [if_pos (by decide +kernel)]; kernel_rfl) | (rw [if_neg (by decide +kernel)]; exact ⟨rfl, rfl⟩))
    (fun os started H enc _ => lifted os started H enc)

theorem proved : Rows.WheelFiresSaid := over
#print axioms proved
end Go.Proofs.Ytgpebbopggmgbaa.wheelFires
