/- What is proved: CollFull of porpoiselaw14 answers true for every input, and leaves its arguments as they were; conditions: those of the given row alone. -/
import Derived.Test.YthldhcjkjchbpaaKit
import Derived.Test.YthldhcjkjchbpaaDeed14
import Derived.Deep.DeepCutAuto
namespace Go.Proofs.Ythldhcjkjchbpaa.collFull
open Go.ChangeShapes Go.WideShapes Go.ChangeAt Go.RowKit Go.Deep
open Go.ChangeMaps (open_string shut_string)
set_option linter.unusedVariables false

theorem own : ownKnob Try.prog.godebug = none := by kernel_rfl
theorem laidOut : laidOutB Try.prog = true := by kernel_rfl

/-- A window as it stands between two commands of this law. -/
structure FS (S : CO) (N : Int) : Prop where
  win : S.win = 1000
  most : S.most = N
  lt : (S.zs.length : Int) < N
  emp : S.zs = [] ↔ S.ms = []
def moreZ (zs : List Int) (x : Int) : List Int := if x ∈ zs then zs else zs ++ [x]
theorem moreZ_len (zs : List Int) (x : Int) : (moreZ zs x).length ≤ zs.length + 1 := by unfold moreZ; split <;> simp
theorem moreZ_ne (zs : List Int) (x : Int) : moreZ zs x ≠ [] := by
  unfold moreZ; split
  · rename_i h; exact fun e => by rw [e] at h; cases h
  · simp
theorem opn_iff {S : CO} {N : Int} (h : FS S N) : S.opn = !S.zs.isEmpty := by
  unfold CO.opn
  cases hz : S.zs with
  | nil => rw [h.emp.1 hz]; rfl
  | cons a l => cases hm : S.ms with
    | nil => rw [h.emp.2 hm] at hz; cases hz
    | cons _ _ => rfl
theorem zs1_more {S : CO} {N : Int} (h : FS S N) (x : Int) : S.zs1 x = moreZ S.zs x := by
  unfold CO.zs1
  rw [opn_iff h]
  cases hz : S.zs with
  | nil => rfl
  | cons a l =>
    rw [← hz]
    have : (!S.zs.isEmpty) = true := by rw [hz]; rfl
    rw [if_pos this]
    unfold addA moreZ
    have hl : ¬ S.most ≤ (S.zs.length : Int) := by rw [h.most]; have := h.lt; omega
    rw [if_neg hl]
theorem full_more {S : CO} {N : Int} (h : FS S N) (x : Int) : S.full1 x = decide (((moreZ S.zs x).length : Int) = N) := by
  unfold CO.full1
  rw [zs1_more h, h.most, decide_eq_decide]
  have := moreZ_len S.zs x
  have := h.lt
  omega
theorem ms1_ne (S : CO) (id x : Int) : S.ms1 id x ≠ [] := by
  unfold CO.ms1
  split
  · rename_i ho
    unfold addM
    split
    · simp
    · intro e; unfold CO.opn at ho; rw [e] at ho; cases ho
  · simp
theorem next_zs {S : CO} {N : Int} (h : FS S N) (now id x : Int) : (S.next now id x).zs = if S.full1 x then [] else moreZ S.zs x := by
  unfold CO.next
  cases S.full1 x
  · exact zs1_more h x
  · rfl
theorem next_FS {S : CO} {N : Int} (h : FS S N) (hN : 1 ≤ N) (now id x : Int) : FS (S.next now id x) N := by
  unfold CO.next
  cases hf : S.full1 x
  · refine ⟨h.win, h.most, ?_, ?_⟩
    · show ((S.zs1 x).length : Int) < N
      rw [zs1_more h]
      rw [full_more h] at hf
      have h1 := of_decide_eq_false hf
      have h2 := moreZ_len S.zs x
      have h3 := h.lt
      omega
    · show S.zs1 x = [] ↔ S.ms1 id x = []
      rw [zs1_more h]
      exact ⟨fun e => absurd e (moreZ_ne _ _), fun e => absurd e (ms1_ne _ _ _)⟩
  · exact ⟨h.win, h.most, by show (0 : Int) < N; omega, ⟨fun _ => rfl, fun _ => rfl⟩⟩
theorem addM_len14 (zs : List Int) (ms : List P2) (id x most : Int) : (addM zs ms id x most).length ≤ ms.length + 1 := by unfold addM; split; simp; omega
theorem next_ms {S : CO} (now id x : Int) {k : Nat} (h : S.ms.length ≤ k) : (S.next now id x).ms.length ≤ k + 1 := by
  unfold CO.next
  split
  · exact Nat.zero_le _
  · show (S.ms1 id x).length ≤ k + 1
    unfold CO.ms1
    split
    · have := addM_len14 S.zs S.ms id x S.most; omega
    · simp
theorem take_more1 {V : List Int} {j : Nat} {z : Int} (h : V[j]? = some z) (x : Int) : decide (x ∈ V.take (j + 1)) = (decide (x ∈ V.take j) || (z == x)) := by
  rw [take_more h]
  by_cases h1 : x ∈ V.take j
  · simp [h1]
  · by_cases h2 : z = x
    · simp [h2]
    · have : ¬ x = z := fun e => h2 e.symm
      simp [h1, h2, this]
theorem opened_is {S : CO} {N : Int} (h : FS S N) (x : Int) : (!S.opn) = ((((moreZ S.zs x).length : Int) == 1) && !decide (x ∈ S.zs)) := by
  rw [opn_iff h]
  unfold moreZ
  cases hz : S.zs with
  | nil => simp
  | cons a l =>
    by_cases hx : x ∈ a :: l
    · simp only [if_pos hx, decide_eq_true hx]
      simp
    · simp only [if_neg hx, decide_eq_false hx]
      have : ((((a :: l ++ [x]).length : Nat) : Int) == 1) = false := by simp; omega
      rw [this]
      rfl
/-- The window while a row of the call's own grows. -/
theorem ColF.grown {w w' : World} {b lo : Nat} {S : CO} {v : Value} (h : ColF w b S lo) (gr : w.grownBy w' v.ownBlock) (hv : ∀ g, v.ownBlock = some g → g < lo ∧ g ≠ b) : ColF w' b S lo := by
  obtain ⟨A, n, c, M, m, d, h, hA, hM⟩ := h
  have f : Frm (fun j => v.ownBlock = some j) w w' := ⟨gr.os, gr.tape, gr.output, gr.size, fun j hj hn => gr.block j hj (fun e => hn e.symm)⟩
  have hne : ∀ {X : Option Addr}, Fresh lo X → ∀ b' off, X = some ⟨b', off, none⟩ → ¬ v.ownBlock = some b' := fun hX b' off e e' => by have := hX b' off e; have := (hv b' e').1; omega
  exact ⟨A, n, c, M, m, d, ⟨(f.block b h.lt (fun e => (hv b e).2 rfl)).trans h.blk, ⟨h.bat.ar.frm f (hne hA), h.bat.mr.frm f (hne hM), h.bat.nc, h.bat.md, h.bat.fits⟩, h.frA, h.frM⟩, hA, hM⟩
theorem ColF.ints {w w' : World} {b lo base : Nat} {S : CO} {v : Value} {zs : List Int} (h : ColF w b S lo) (own : OwnR irec w base 3 v zs) (hf : Frm (· = b) w w') : OwnR irec w' base 3 v zs := by
  obtain ⟨A, n, c, M, m, d, h, _⟩ := h
  refine own.frm hf (fun j e cs hc => ?_)
  rw [show j = b from e, h.blk] at hc
  cases hc

set_option maxRecDepth 100000 in
set_option maxHeartbeats 4000000 in
theorem walk (w : World) (a0 : Int) (w0 : (Lit.int .u8 a0).wf = true) (a1 : Option Addr) (l1 k1 : Nat) (L1 : List (List Value)) (w1 : SliceIn w [.int .i64, .int .i64, .int .i64, .int .u64] 32 a1 l1 k1 L1) :
    Calls Try.prog 8 #[.int .u8 a0, .slice a1 l1 k1] w fun e w' => e = .returned (.bool true) ∧ Below w.heap.size w w' := by
  obtain ⟨V, hrow, hfit, hlk, hkm⟩ := deeds_in w1
  obtain ⟨n, hn1, hn2, hn3⟩ := cap14 l1
  have hml := hrow.2.1
  unfold maxLen at hml
  obtain ⟨u0, u0'⟩ := bounds_u8 w0
  obtain ⟨e, he⟩ : ∃ e, a0.tmod 4 = e := ⟨_, rfl⟩
  have he' : a0 % 4 = e := by rw [← he]; exact (Int.tmod_eq_emod_of_nonneg u0).symm
  have e0 : 0 ≤ e := by omega
  have e1 : e < 4 := by omega
  obtain ⟨N, hN⟩ : ∃ N, 1 + e = N := ⟨_, rfl⟩
  have hN1 : 1 ≤ N := by omega
  have hN4 : N ≤ 4 := by omega
  have HR := Lib.hid hrow
  have HF := Lib.hid hfit
  clear w0 w1 hrow hfit hlk hkm
  go_enter Try.func8, Try.ntmps8
  go_wp2_with fail
  refine (awake14_any w).mono ?_
  rintro r wa ⟨rfl, ba⟩
  have LA := Lib.hid ba
  clear ba
  go_wp2_with fail
  refine (new_at 1000 N wa (by decide) (decide_eq_true ⟨by decide, by decide, hN1, hN4⟩)).mono ?_
  rintro r w1 ⟨rfl, h1, b1⟩
  have C1 : Hid (ColF w1 wa.heap.size ⟨1000, N, [], [], 0⟩ w1.heap.size) := Lib.hid ⟨_, _, _, _, _, _, h1, Fresh.none _, Fresh.none _⟩
  have L1 := Lib.hid (LA.out.trans (b1.mono LA.out.size))
  have GB : Hid (w.heap.size ≤ wa.heap.size) := Lib.hid LA.out.size
  clear h1 b1 LA hN he he' e0 e1 u0 u0'
  go_wp2
  generalize wa.heap.size = b at *
  go_loopg [8, 9] n (fun q v8 v9 wr => ∃ (i : Nat) (S : CO) (lo : Nat), i + q = n ∧ v9 = .int .i64 i ∧ FS S N ∧ S.ms.length ≤ i ∧ ColF wr b S lo ∧ lo ≤ wr.heap.size ∧ OwnR irec wr (b + 1) 3 v8 S.zs ∧ (∀ g, v8.ownBlock = some g → g < lo) ∧ Below w.heap.size w wr)
  case atStart => exact ⟨0, ⟨1000, N, [], [], 0⟩, w1.heap.size, by omega, rfl, ⟨rfl, rfl, by show (0 : Int) < N; omega, ⟨fun _ => rfl, fun _ => rfl⟩⟩, Nat.le_refl _, C1.out, Nat.le_refl _, OwnR.nil _ _ _, fun g hg => (by cases hg), L1.out⟩
  case round =>
    obtain ⟨i, S, lo, hq, rfl, hS, hms, hcol, hlo, hown, hob, hlow⟩ := hrel
    obtain ⟨A8, n8, c8, rfl, r8, hn8, hnc8, _⟩ := hown.row'
    have G := Lib.hid hq
    have SS := Lib.hid hS
    have MS := Lib.hid hms
    have CC := Lib.hid hcol
    have LO := Lib.hid hlo
    have OW := Lib.hid hown
    have OB := Lib.hid hob
    have LL := Lib.hid hlow
    have R8 := Lib.hid r8
    have N8 := hn8
    have hl8 : n8 ≤ 4 := by have := hn8.out; have := hS.lt; omega
    clear hq hS hms hcol hlo hown hob hlow C1 L1 r8 hn8
    by_cases hin : i < n
    · have hi1 : (i : Int) < l1 := by omega
      have hi2 : (i : Int) < 100 := by omega
      obtain ⟨rb, off, d, rfl, hd, hlt, q0, q1, q2, q3⟩ := (HR.out.later LL.out).deed_at (i := i) (by omega)
      have hlt0 := HR.out.lt rfl (by omega)
      have DF := Lib.hid (HF.out d (List.mem_of_getElem? hd))
      have hs : ∀ wx, Frm (· = b) wr wx → wx.cell? ⟨rb, off + i * 4 + 1, none⟩ = some (.int .i64 d.i) ∧ wx.cell? ⟨rb, off + i * 4 + 2, none⟩ = some (.int .i64 d.x) := fun wx hf => by
        have hb : wx.heap[rb]? = wr.heap[rb]? := hf.block rb hlt (by have := GB.out; show ¬ rb = b; omega)
        exact ⟨(World.cell?_of_block hb).trans q1, (World.cell?_of_block hb).trans q2⟩
      have HD := Lib.hid hd
      have RB : Hid (rb < w.heap.size) := Lib.hid hlt0
      have HSW := Lib.hid hs
      clear hs hd hlt hlt0 q0 q1 q2 q3
      go_wp2
      go_loopg [10, 11] n8 (fun q v10 v11 wx => ∃ (k : Nat) (t : Bool), k + q = n8 ∧ v11 = .int .i64 k ∧ v10 = .bool t ∧ t = decide (d.x ∈ S.zs.take k) ∧ Below wr.heap.size wr wx)
      case atStart => exact ⟨0, false, by omega, rfl, rfl, by simp, Below.refl _ _⟩
      case round =>
        obtain ⟨k, t, hk, rfl, rfl, ht, hbx⟩ := hrel
        have GK := Lib.hid hk
        have HT := Lib.hid ht
        have BX := Lib.hid hbx
        have p2 := (World.cell?_of_block (hbx.block rb (by have := RB.out; have := LL.out.size; omega))).trans (HSW.out _ (Frm.refl _ _)).2
        clear hk ht hbx
        by_cases hkn : k < n8
        · have hk1 : (k : Int) < n8 := by omega
          obtain ⟨ab, ao, z, hA, hz, y0⟩ := (R8.out.later BX.out).int_at hkn
          have HZ := Lib.hid (take_more1 hz d.x)
          subst hA
          have z1 : ∀ p : Later wr, p.v.cell? ⟨rb, off + i * 4 + 2, none⟩ = some (.int .i64 d.x) := fun p => p.cell p2
          have z2 : ∀ p : Later wr, p.v.cell? ⟨ab, ao + k, none⟩ = some (.int .i64 z) := fun p => p.cell y0
          clear hz y0 p2
          cases t with
          | true =>
            go_wp2
            refine wp_region_later (by kernel_rfl) (by kernel_rfl) ?_
            repeat (first | go_big_quiet_step (first | fail))
            refine wpQuiet_nil ?_
            rintro w10 ⟨⟨_, b10⟩, rfl⟩
            have B10 := Lib.hid (BX.out.trans (b10.mono BX.out.size))
            clear z1 z2 b10
            go_wp2
            go_roundg (n8 - (k + 1))
            case measure => have := GK.out; omega
            case rel => exact ⟨k + 1, true, by omega, by simp, rfl, by rw [HZ.out, ← HT.out]; rfl, B10.out⟩
          | false =>
            go_wp2
            refine wp_region_later (by kernel_rfl) (by kernel_rfl) ?_
            repeat (first | go_big_quiet_step (first | fail))
            refine wpQuiet_nil ?_
            rintro w10 ⟨⟨_, b10⟩, rfl⟩
            have B10 := Lib.hid (BX.out.trans (b10.mono BX.out.size))
            clear z1 z2 b10
            go_wp2
            go_roundg (n8 - (k + 1))
            case measure => have := GK.out; omega
            case rel => exact ⟨k + 1, (z == d.x), by omega, by simp, rfl, by rw [HZ.out, ← HT.out]; rfl, B10.out⟩
        · have hk1 : ¬ (k : Int) < n8 := by omega
          have ht2 : t = decide (d.x ∈ S.zs) := by
            have h1 := HT.out
            rwa [List.take_of_length_le (by have := N8.out; have := GK.out; omega)] at h1
          have HT2 := Lib.hid ht2
          clear ht2 HT p2
          have CC' := Lib.hid (CC.out.below BX.out)
          have LO' := Lib.hid (Nat.le_trans LO.out BX.out.size)
          have OW' := Lib.hid (OW.out.below BX.out)
          have LL' := Lib.hid (LL.out.trans (BX.out.mono LL.out.size))
          have HS1 : Hid (∀ wx, Frm (· = b) wr wx → wx.cell? ⟨rb, off + i * 4 + 1, none⟩ = some (.int .i64 d.i) ∧ wx.cell? ⟨rb, off + i * 4 + 2, none⟩ = some (.int .i64 d.x)) := Lib.hid (fun wx hf => HSW.out wx ((Frm.of_below (F := (· = b)) BX.out).trans hf (fun _ _ e => e)))
          clear CC LO OW LL HSW BX R8
          go_upto_if 52 with fail
          go_cut [8] (fun v8 wq => OwnR irec wq (b + 1) 3 v8 (moreZ S.zs d.x) ∧ ColF wq b S lo ∧ wr.heap.size ≤ wq.heap.size ∧ (∀ g, v8.ownBlock = some g → g < wq.heap.size) ∧ Below w.heap.size w wq ∧ (∀ wx, Frm (· = b) wq wx → wx.cell? ⟨rb, off + i * 4 + 1, none⟩ = some (.int .i64 d.i) ∧ wx.cell? ⟨rb, off + i * 4 + 2, none⟩ = some (.int .i64 d.x)))
          case first =>
            cases t with
            | true =>
              have hx : d.x ∈ S.zs := of_decide_eq_true HT2.out.symm
              have em : moreZ S.zs d.x = S.zs := if_pos hx
              have EM := Lib.hid em
              clear hx em
              go_wp2
              go_meet
              rw [EM.out]
              exact ⟨OW'.out, CC'.out, Nat.le_refl _, fun g hg => Nat.lt_of_lt_of_le (OB.out g hg) LO'.out, LL'.out, HS1.out⟩
            | false =>
              have hx : ¬ d.x ∈ S.zs := of_decide_eq_false HT2.out.symm
              have EM := Lib.hid (show moreZ S.zs d.x = S.zs ++ [d.x] from if_neg hx)
              have hc := HS1.out wr (Frm.refl _ _)
              have c2 := hc.2
              have HC := Lib.hid hc
              have OA : Hid (OwnR irec (wr.alloc (.cells #[.int .i64 d.x] 3)) (b + 1) 3 (.slice A8 n8 c8) S.zs) := Lib.hid (OW'.out.alloc _)
              have SA := Lib.hid (RowR.one (R := irec) wr d.x 3 (cs := #[.int .i64 d.x]) rfl)
              have BA := Lib.hid (below_alloc wr (.cells #[.int .i64 d.x] 3))
              have CA := Lib.hid (CC'.out.below BA.out)
              have LB : Hid (b + 1 ≤ (wr.alloc (.cells #[.int .i64 d.x] 3)).heap.size) := Lib.hid (Nat.le_trans CC'.out.lt BA.out.size)
              have LN : Hid (S.zs.length + 1 ≤ 1048576) := Lib.hid (by have := N8.out; omega)
              have RB' : Hid (rb < wr.heap.size ∧ rb < b) := Lib.hid ⟨by have := RB.out; have := LL'.out.size; omega, by have := RB.out; have := GB.out; omega⟩
              clear hx hc
              go_wp2_with (first
                | (at_builtin; refine wpList_appS tI (base := b + 1) rfl (.tmp 53) (.tmp 59) rfl rfl rfl OA.out SA.out LN.out LB.out ?_;
                   intro v6 w6 own6 gr6 hor; have O6 := Lib.hid own6; have G6 := Lib.hid gr6; clear own6 gr6 hor))
              go_meet
              rw [EM.out]
              have hb6 := ColF.grown CA.out G6.out (fun g hg => ⟨OB.out g hg, by have := OA.out.low g hg; omega⟩)
              have t6 : Below (b + 1) (wr.alloc (.cells #[.int .i64 d.x] 3)) w6 := grown_low G6.out LB.out OA.out.low
              have hG := GB.out
              have hL := LL'.out.size
              have hR := RB'.out
              refine ⟨O6.out, hb6, Nat.le_trans BA.out.size t6.size, fun g hg => ?_, (LL'.out.trans (BA.out.mono hL)).trans (t6.mono (by omega)), fun wx hf => ?_⟩
              · obtain ⟨cs, hcs⟩ := O6.out.block hg
                exact heap_lt hcs
              · have h6 : w6.heap[rb]? = wr.heap[rb]? := (t6.block rb (by omega)).trans (BA.out.block rb hR.1)
                have hx6 : wx.heap[rb]? = wr.heap[rb]? := (hf.block rb (by have := BA.out.size; have := t6.size; omega) (by show ¬ rb = b; omega)).trans h6
                exact ⟨(World.cell?_of_block hx6).trans HC.out.1, (World.cell?_of_block hx6).trans HC.out.2⟩
          case rest =>
            rename_i v8x
            obtain ⟨hown, hcol, hsz, hob, hlow, hs⟩ := hcut
            obtain ⟨A9, n9, c9, rfl, r9, hn9, _, _⟩ := hown.row'
            have OW := Lib.hid hown
            have CC := Lib.hid hcol
            have OB9 := Lib.hid hob
            have LL := Lib.hid hlow
            have HSW := Lib.hid hs
            have LO9 : Hid (lo ≤ wc.heap.size) := Lib.hid (Nat.le_trans LO'.out hsz)
            clear hown hcol hsz hob hlow hs CC' LO' OW' LL' HS1 r9 OB
            have l9 : n9 ≤ 5 := by have h1 := hn9.out; have h2 := moreZ_len S.zs d.x; have h3 := N8.out; omega
            go_wp2
            go_cut [12] (fun v12 wq => ∃ (g : Nat) (A : Option Addr) (n' c : Nat) (M : Option Addr) (m' e' : Nat), v12 = .pointer (some ⟨g, 0, none⟩) ∧ Told wc wq b g (S.next 0 d.i d.x) (S.step 0 d.i d.x) A n' c M m' e')
            case first =>
              have CD : Hid (Col wc.drew b S) := Lib.hid (CC.out.col.below (ali_below (drew_ali wc)))
              have LT : Hid (b < wc.drew.heap.size) := Lib.hid CC.out.lt
              have FW : Hid (Frm (· = b) wc wc.drew) := Lib.hid (Frm.of_ali (drew_ali wc))
              have HADD : Hid (∀ wx, Col wx b S → Calls Try.prog 30 #[.pointer (some ⟨b, 0, none⟩), .int .u64 0, .int .i64 d.i, .int .i64 d.x] wx fun r w' => ∃ A n c M m e, r = .returned (stepV (S.step 0 d.i d.x).o (S.step 0 d.i d.x).r (S.step 0 d.i d.x).due A n c M m e) ∧ ColF w' b (S.next 0 d.i d.x) wx.heap.size ∧ Bat w' A n c M m e (S.step 0 d.i d.x).zs (S.step 0 d.i d.x).ms ∧ Fresh wx.heap.size A ∧ Fresh wx.heap.size M ∧ Frm (· = b) wx w') :=
                Lib.hid (fun wx h => add_told b S 0 d.i d.x wx h DF.out.2.1 (by have := N8.out; omega) (by have := MS.out; omega) (by rw [SS.out.win]; decide) (by rw [SS.out.win]; decide) (by decide) (by decide))
              have HS : Hid (∀ wx, Frm (· = b) wc.drew wx → wx.cell? ⟨rb, off + i * 4 + 1, none⟩ = some (.int .i64 d.i) ∧ wx.cell? ⟨rb, off + i * 4 + 2, none⟩ = some (.int .i64 d.x)) := Lib.hid (fun wx hf => HSW.out wx (FW.out.trans hf (fun _ _ e => e)))
              clear HSW CC OW OB9 LL HR HF DF G LO9 SS MS
              refine wp_region_held_drew (S := fun wx => wx.cell? ⟨rb, off + i * 4 + 1, none⟩ = some (.int .i64 d.i) ∧ wx.cell? ⟨rb, off + i * 4 + 2, none⟩ = some (.int .i64 d.x)) (by kernel_rfl) (HS.out _ (Frm.refl _ _)) (fun hHeld => ?_)
              generalize wc.drew = wd at *
              refine wpAnyH_take (i := 0) (oi := ⟨_, _, _, _, _, _⟩) (v := ?_) rfl (by kernel_rfl) (by kernel_rfl) (by kernel_rfl) (fun _ _ _ h => h) (Or.inl ⟨by rfl, ?_⟩) (by assumption) ?_
              rotate_left
              · intro w hSw; (try dsimp only at hSw); go_simp; try (with_reducible rfl)
              try go_frame
              refine wpAnyH_take (i := 1) (oi := ⟨_, _, _, _, _, _⟩) (v := ?_) rfl (by kernel_rfl) (by kernel_rfl) (by kernel_rfl) (fun _ _ _ h => h) (Or.inl ⟨by rfl, ?_⟩) (by assumption) ?_
              rotate_left
              · intro w hSw; (try dsimp only at hSw); go_simp; try (with_reducible rfl)
              try go_frame
              refine wpAnyH_take (i := 2) (oi := ⟨_, _, _, _, _, _⟩) (v := ?_) rfl (by kernel_rfl) (by kernel_rfl) (by kernel_rfl) (fun _ _ _ h => h) (Or.inl ⟨by rfl, ?_⟩) (by assumption) ?_
              rotate_left
              · intro w hSw; (try dsimp only at hSw); go_simp; try (with_reducible rfl)
              try go_frame
              refine wpAnyH_take (i := 3) (oi := ⟨_, _, _, _, _, _⟩) (v := ?_) rfl (by kernel_rfl) (by kernel_rfl) (by kernel_rfl) (fun _ _ _ h => h) (Or.inl ⟨by rfl, ?_⟩) (by assumption) ?_
              rotate_left
              · intro w hSw; (try dsimp only at hSw); go_simp; try (with_reducible rfl)
              try go_frame
              refine wpAnyH_take (i := 4) (oi := ⟨_, _, _, _, _, _⟩) (v := ?_) rfl (by kernel_rfl) (by kernel_rfl) (by kernel_rfl) (fun _ _ _ h => h) (Or.inl ⟨by rfl, ?_⟩) (by assumption) ?_
              rotate_left
              · intro w hSw; (try dsimp only at hSw); go_simp; try (with_reducible rfl)
              try go_frame
              refine wpAnyH_take (i := 5) (oi := ⟨_, _, _, _, _, _⟩) (v := ?_) rfl (by kernel_rfl) (by kernel_rfl) (by kernel_rfl) (fun _ _ _ h => h) (Or.inl ⟨by rfl, ?_⟩) (by assumption) ?_
              rotate_left
              · intro w hSw; (try dsimp only at hSw); go_simp; try (with_reducible rfl)
              try go_frame
              refine wpAnyH_take (i := 6) (oi := ⟨_, _, _, _, _, _⟩) (v := ?_) rfl (by kernel_rfl) (by kernel_rfl) (by kernel_rfl) (fun _ _ _ h => h) (Or.inl ⟨by rfl, ?_⟩) (by assumption) ?_
              rotate_left
              · intro w hSw; (try dsimp only at hSw); go_simp; try (with_reducible rfl)
              try go_frame
              refine wpAnyH_take (i := 7) (oi := ⟨_, _, _, _, _, _⟩) (v := ?_) rfl (by kernel_rfl) (by kernel_rfl) (by kernel_rfl) (fun _ _ _ h => h) (Or.inl ⟨by rfl, ?_⟩) (by assumption) ?_
              rotate_left
              · intro w hSw; (try dsimp only at hSw); go_simp; try (with_reducible rfl)
              try go_frame
              refine wpAnyH_take (i := 8) (oi := ⟨_, _, _, _, _, _⟩) (v := ?_) rfl (by kernel_rfl) (by kernel_rfl) (by kernel_rfl) (fun _ _ _ h => h) (Or.inl ⟨by rfl, ?_⟩) (by assumption) ?_
              rotate_left
              · intro w hSw; (try dsimp only at hSw); go_simp; try (with_reducible rfl)
              try go_frame
              refine wpAnyH_take (i := 9) (oi := ⟨_, _, _, _, _, _⟩) (v := ?_) rfl (by kernel_rfl) (by kernel_rfl) (by kernel_rfl) (fun _ _ _ h => h) (Or.inl ⟨by rfl, ?_⟩) (by assumption) ?_
              rotate_left
              · intro w hSw; (try dsimp only at hSw); go_simp; try (with_reducible rfl)
              try go_frame
              refine wpAnyH_take (i := 10) (oi := ⟨_, _, _, _, _, _⟩) (v := ?_) rfl (by kernel_rfl) (by kernel_rfl) (by kernel_rfl) (fun _ _ _ h => h) (Or.inl ⟨by rfl, ?_⟩) (by assumption) ?_
              rotate_left
              · intro w hSw; (try dsimp only at hSw); go_simp; try (with_reducible rfl)
              try go_frame
              refine wpAnyH_ready (rs := [11, 12]) (by kernel_rfl) (by simp) ?_
              refine ready_cons (i := 11) (o := ⟨_, _, _, _, _, _⟩) rfl ?_ (ready_cons (i := 12) (o := ⟨_, _, _, _, _, _⟩) rfl ?_ AllReadyH.nil)
              · intro K hK
                refine call_step (f := 30) (args := #[.pointer (some ⟨b, 0, none⟩), .int .u64 0, .int .i64 d.i, .int .i64 d.x]) rfl (by kernel_rfl) ?_
                refine (HADD.out wd CD.out).mono ?_
                rintro r w5 ⟨A5, n5, c5, M5, m5, d5, rfl, h5, b5, p5, q5, f5⟩
                refine ⟨_, rfl, ?_⟩
                have F5 := Lib.hid f5
                have C5 := Lib.hid h5
                have B5 := Lib.hid b5
                have P5 := Lib.hid p5
                have Q5 := Lib.hid q5
                refine hK.out _ _ (HS.out _ F5.out) (fun hHeld => ?_)
                clear hK K h5 b5 p5 q5 f5
                try go_frame
                refine wpAnyH_ready (rs := [12]) (by kernel_rfl) (by simp) ?_
                refine ready_cons (i := 12) (o := ⟨_, _, _, _, _, _⟩) rfl ?_ AllReadyH.nil
                intro K hK
                constructor
                go_simp
                have F6 : Hid (Frm (· = b) wd (w5.alloc (.cells #[.bool false, .bool false, .int .u64 0, .slice none 0 0, .slice none 0 0] 72))) := Lib.hid (F5.out.then_below (below_alloc w5 _))
                have K6 : Hid ((w5.alloc (.cells #[.bool false, .bool false, .int .u64 0, .slice none 0 0, .slice none 0 0] 72)).heap[w5.heap.size]? = some (sobj false false 0 none 0 0 none 0 0)) := Lib.hid (heap_alloc_at w5 _)
                have C6 : Hid (ColF (w5.alloc (.cells #[.bool false, .bool false, .int .u64 0, .slice none 0 0, .slice none 0 0] 72)) b (S.next 0 d.i d.x) wd.heap.size) := Lib.hid (C5.out.below (below_alloc w5 _))
                have B6 : Hid (Bat (w5.alloc (.cells #[.bool false, .bool false, .int .u64 0, .slice none 0 0, .slice none 0 0] 72)) A5 n5 c5 M5 m5 d5 (S.step 0 d.i d.x).zs (S.step 0 d.i d.x).ms) := Lib.hid (B5.out.below (below_alloc w5 _))
                have NG : Hid (w5.heap.size ≠ b) := Lib.hid (by have := LT.out; have := F5.out.size; omega)
                have GG' : Hid (wd.heap.size ≤ w5.heap.size) := Lib.hid F5.out.size
                refine hK.out _ _ (HS.out _ F6.out) (fun hHeld => ?_)
                clear hK K F5 C5 B5
                generalize w5.alloc (.cells #[.bool false, .bool false, .int .u64 0, .slice none 0 0, .slice none 0 0] 72) = w6 at *
                generalize w5.heap.size = g at *
                have F5 := F6
                have C5 := C6
                have B5 := B6
                clear F6 C6 B6
                try go_frame
                refine wpAnyH_ready (rs := [13]) (by kernel_rfl) (by simp) ?_
                refine ready_cons (i := 13) (o := ⟨_, _, _, _, _, _⟩) rfl ?_ AllReadyH.nil
                intro K hK
                refine store_step rfl 72 _ _ rfl g 0 72 (svals false false 0 none 0 0 none 0 0) (svals (S.step 0 d.i d.x).o (S.step 0 d.i d.x).r (S.step 0 d.i d.x).due A5 n5 c5 M5 m5 d5) rfl rfl K6.out (Nat.le_refl _) sizeS (onesS _ _ _ _ _ _ _ _ _) ?_
                intro w7 k7 f7 _
                have told := told_put C5.out B5.out P5.out Q5.out F5.out K6.out GG'.out (fun e => NG.out e.symm) k7 f7
                refine hK.out _ _ (HS.out _ told.frm) (fun hHeld => ?_)
                clear hK K k7 f7
                try go_frame
                refine wpAnyH_done (by kernel_rfl) ?_ _
                go_wp2
                go_meet
                exact ⟨g, A5, n5, c5, M5, m5, d5, rfl, told.from FW.out⟩
              · intro K hK
                constructor
                go_simp
                have F6 : Hid (Frm (· = b) wd (wd.alloc (.cells #[.bool false, .bool false, .int .u64 0, .slice none 0 0, .slice none 0 0] 72))) := Lib.hid (Frm.of_below (below_alloc wd _))
                have K0 : Hid ((wd.alloc (.cells #[.bool false, .bool false, .int .u64 0, .slice none 0 0, .slice none 0 0] 72)).heap[wd.heap.size]? = some (sobj false false 0 none 0 0 none 0 0)) := Lib.hid (heap_alloc_at wd _)
                have C6 : Hid (Col (wd.alloc (.cells #[.bool false, .bool false, .int .u64 0, .slice none 0 0, .slice none 0 0] 72)) b S) := Lib.hid (CD.out.below (below_alloc wd _))
                have NG : Hid (wd.heap.size ≠ b) := Lib.hid (by have := LT.out; omega)
                have GG : Hid (wd.heap.size ≤ wd.heap.size) := Lib.hid (Nat.le_refl _)
                refine hK.out _ _ (HS.out _ F6.out) (fun hHeld => ?_)
                clear hK K
                generalize wd.alloc (.cells #[.bool false, .bool false, .int .u64 0, .slice none 0 0, .slice none 0 0] 72) = w6 at *
                obtain ⟨g, hg⟩ : ∃ g, wd.heap.size = g := ⟨_, rfl⟩
                rw [hg] at K0 NG
                have GG' : Hid (wd.heap.size ≤ g) := Lib.hid (Nat.le_of_eq hg)
                try rw [hg]
                clear hg GG
                try go_frame
                refine wpAnyH_ready (rs := [11]) (by kernel_rfl) (by simp) ?_
                refine ready_cons (i := 11) (o := ⟨_, _, _, _, _, _⟩) rfl ?_ AllReadyH.nil
                intro K hK
                refine call_step (f := 30) (args := #[.pointer (some ⟨b, 0, none⟩), .int .u64 0, .int .i64 d.i, .int .i64 d.x]) rfl (by kernel_rfl) ?_
                refine (HADD.out w6 C6.out).mono ?_
                rintro r w5 ⟨A5, n5, c5, M5, m5, d5, rfl, h5, b5, p5, q5, f5⟩
                refine ⟨_, rfl, ?_⟩
                have K6 := Lib.hid (carry f5 K0.out NG.out)
                have F5 := Lib.hid (F6.out.trans f5 (fun _ _ e => e))
                have C5 := Lib.hid (h5.mono F6.out.size)
                have B5 := Lib.hid b5
                have P5 := Lib.hid (p5.mono F6.out.size)
                have Q5 := Lib.hid (q5.mono F6.out.size)
                refine hK.out _ _ (HS.out _ F5.out) (fun hHeld => ?_)
                clear hK K h5 b5 p5 q5 f5 F6 K0 C6
                try go_frame
                refine wpAnyH_ready (rs := [13]) (by kernel_rfl) (by simp) ?_
                refine ready_cons (i := 13) (o := ⟨_, _, _, _, _, _⟩) rfl ?_ AllReadyH.nil
                intro K hK
                refine store_step rfl 72 _ _ rfl g 0 72 (svals false false 0 none 0 0 none 0 0) (svals (S.step 0 d.i d.x).o (S.step 0 d.i d.x).r (S.step 0 d.i d.x).due A5 n5 c5 M5 m5 d5) rfl rfl K6.out (Nat.le_refl _) sizeS (onesS _ _ _ _ _ _ _ _ _) ?_
                intro w7 k7 f7 _
                have told := told_put C5.out B5.out P5.out Q5.out F5.out K6.out GG'.out (fun e => NG.out e.symm) k7 f7
                refine hK.out _ _ (HS.out _ told.frm) (fun hHeld => ?_)
                clear hK K k7 f7
                try go_frame
                refine wpAnyH_done (by kernel_rfl) ?_ _
                go_wp2
                go_meet
                exact ⟨g, A5, n5, c5, M5, m5, d5, rfl, told.from FW.out⟩
            case rest =>
              obtain ⟨g, A, n', c, M, m', e', rfl, ht⟩ := hcut
              obtain ⟨y, hy⟩ : ∃ y, S.full1 d.x = y := ⟨_, rfl⟩
              obtain ⟨p, hp⟩ : ∃ p, ((n9 : Int) == 1) = p := ⟨_, rfl⟩
              obtain ⟨o, ho⟩ : ∃ o, (p && !t) = o := ⟨_, rfl⟩
              have hn9' : (moreZ S.zs d.x).length = n9 := hn9.out
              have ey : ((n9 : Int) == N) = y := by rw [← hy, full_more SS.out, hn9']; rfl
              have eo : (!S.opn) = o := by rw [opened_is SS.out d.x, hn9', ← HT2.out, hp, ho]
              have z0 : wc.cell? ⟨g, 0, none⟩ = some (.bool o) := by rw [← eo]; exact vobj_cell ht.blk rfl
              have z1 : wc.cell? ⟨g, 1, none⟩ = some (.bool y) := by rw [← hy]; exact vobj_cell ht.blk rfl
              have z3 : wc.cell? ⟨g, 3, none⟩ = some (.slice A n' c) := vobj_cell ht.blk rfl
              have eq : y = true → ((n' : Int) != N) = false := fun h => by
                have h1 := ht.bat.alen
                have h2 : (S.step 0 d.i d.x).zs = moreZ S.zs d.x := by
                  show (if S.full1 d.x then S.zs1 d.x else []) = _
                  rw [hy, h, if_pos rfl, zs1_more SS.out]
                rw [h2, hn9'] at h1
                rw [h] at ey
                rw [← h1]
                simpa using ey
              have NF := Lib.hid (next_FS SS.out hN1 0 d.i d.x)
              have NM := Lib.hid (next_ms 0 d.i d.x MS.out)
              have NZ : Hid ((S.next 0 d.i d.x).zs = if y then [] else moreZ S.zs d.x) := Lib.hid (by rw [next_zs SS.out, hy])
              have CN := Lib.hid ht.col
              have SZ := Lib.hid ht.frm.size
              have ON := Lib.hid (ColF.ints CC.out OW.out ht.frm)
              have LLN : Hid (Below w.heap.size w wc) := Lib.hid (LL.out.trans (ht.frm.below LL.out.size (fun j hj e => by have := GB.out; omega)))
              clear ht hn9' hn9 N8 hy eo HT2 CC OW LL HSW LO9 DF SS
              cases y with
              | false =>
                have ONF : Hid (OwnR irec wc (b + 1) 3 (.slice A9 n9 c9) (S.next 0 d.i d.x).zs) := Lib.hid (by rw [NZ.out, if_neg (by decide)]; exact ON.out)
                clear eq NZ
                cases p <;> cases t
                all_goals (first | (obtain rfl : o = false := ho.symm) | (obtain rfl : o = true := ho.symm))
                all_goals
                  go_wp2
                  go_roundg (n - (i + 1))
                  case measure => have := G.out; omega
                  case rel => exact ⟨i + 1, S.next 0 d.i d.x, _, by omega, by simp, NF.out, NM.out, CN.out, SZ.out, ONF.out, OB9.out, LLN.out⟩
              | true =>
                have hq := eq rfl
                have ONT : Hid (OwnR irec wc (b + 1) 3 (.slice none 0 0) (S.next 0 d.i d.x).zs) := Lib.hid (by rw [NZ.out, if_pos rfl]; exact OwnR.nil _ _ _)
                clear eq NZ
                cases p <;> cases t
                all_goals (first | (obtain rfl : o = false := ho.symm) | (obtain rfl : o = true := ho.symm))
                all_goals
                  go_wp2
                  go_roundg (n - (i + 1))
                  case measure => have := G.out; omega
                  case rel => exact ⟨i + 1, S.next 0 d.i d.x, _, by omega, by simp, NF.out, NM.out, CN.out, SZ.out, ONT.out, fun g hg => (by cases hg), LLN.out⟩
    · have hex : ((i : Int) < l1 ∧ ¬ (i : Int) < 100) ∨ ¬ (i : Int) < l1 := by have := G.out; omega
      rcases hex with ⟨h1, h2⟩ | h1
      all_goals
        go_wp2
        go_ret
        exact ⟨rfl, LL.out⟩

set_option maxRecDepth 100000 in
theorem lifted (os : Os) (started : os.Started) (H : Type) (enc : TypeId × Value → H) :
    ReturnsInHanded {} Try.checked os 8 .any (Rows.collFullSpec.pre6 enc Try.prog Try.f8 Rows.collFullRow.domain false) (Rows.collFullSpec.post enc Try.prog Try.f8 false true false false) := by
  refine returnsInHanded_of_change_sized (C := Try.checked) own started (by kernel_rfl) Try.func8
    (ChangeSpec.witness6 (enc := enc) (C := Try.checked) false ⟨#[], #[.int .u8 0, .slice none 0 0], []⟩ 8 (by kernel_rfl) (by kernel_rfl) (by kernel_rfl) (by kernel_rfl)) ?_
  intro W base args ds gs before hval0 hW hcnd hsz0 _
  have hval : ∀ (j : Nat) t v, Try.f8.params[j]? = some t → args[j]? = some v → Value.okWide Try.prog W .any base t v := hval0
  have hsz : (DataW.weightsEach Try.prog (Try.f8.params.toList ++ Rows.collFullSpec.plain.varTypes Try.prog) (ds ++ gs)).all (· ≤ reachBytes) = true := hsz0
  have hW' := hW
  obtain ⟨p, q, hA0, hV, rfl, hfz, hnd⟩ := hW
  have hA : DataW.TrodAll enc Try.prog W 0 (fun _ => true) true Try.f8.params.toList args.toList ds p := hA0
  rw [Try.params8] at hA hval hsz
  have hAk := hA
  obtain ⟨v0, vs0, d0, ds0, p0, q0, hargs, rfl, rfl, h0, r0⟩ := trodAll_cons hA
  obtain ⟨v1, vs1, d1, ds1, p1, q1, rfl, rfl, rfl, h1, r1⟩ := trodAll_cons r0
  obtain ⟨rfl, rfl, rfl⟩ := trodAll_nil r1
  obtain rfl : args = #[v0, v1] := by cases args; simp_all
  obtain ⟨rfl, rfl⟩ := trodVars_none hV
  obtain ⟨a0, rfl, rfl, rfl, w0⟩ := open_int Try.underlying5 (hval 0 5 v0 rfl rfl) h0
  obtain ⟨a1, l1, k1, L1, rfl, w1⟩ := open_slice_flat (ks := [.int .i64, .int .i64, .int .i64, .int .u64]) (bytes := 32) 8 Try.underlying61 (by kernel_rfl) (by kernel_rfl) (by decide) (by kernel_rfl) (hval 1 61 v1 rfl rfl) h1 (fun elems rest hd => by subst hd; exact sized_slice hsz (j := 1) (t := 61) (e := 70) rfl rfl Try.underlying61)
  clear hA0 hval0 hsz0
  refine (walk W a0 w0 a1 l1 k1 L1 w1).mono fun e W' ⟨he, bel⟩ => ?_
  subst he
  exact ⟨_, rfl, _, _, _, [], _, [], hW', trodAll_mk1 (shut_bool Try.underlying4 _), trodAll_below laidOut bel _ _ _ _ (by kernel_rfl) hAk, rfl, bel.frame _, fun h => by cases h⟩

theorem over : Rows.collFullRow.holds Try.pinned (OpenSpec.ofChange Rows.collFullSpec) :=
  OpenClaim.holds_of_wide 8 Try.f8 rfl rfl rfl rfl rfl rfl rfl ⟨rfl, rfl, rfl, rfl, rfl⟩ rfl rfl rfl rfl rfl (by kernel_rfl) Try.func8 (by kernel_rfl)
    (of_decide_eq_true (by kernel_rfl)) (by unfold Func.isWrapper; first | (rw [if_pos (by decide +kernel)]; kernel_rfl) | (rw [if_neg (by decide +kernel)]; exact ⟨rfl, rfl⟩))
    (fun os started H enc _ => lifted os started H enc)

theorem proved : Rows.CollFullSaid := over
#print axioms proved
end Go.Proofs.Ythldhcjkjchbpaa.collFull
