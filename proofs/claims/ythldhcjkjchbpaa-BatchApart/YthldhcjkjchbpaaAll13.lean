/- Layer 13: all (a batch of wants, and those that it took). -/
import Derived.Test.YthldhcjkjchbpaaLaw13
import Derived.Deep.DeepCutAuto
namespace Go.Proofs.Ythldhcjkjchbpaa
set_option linter.unusedVariables false
open Go.ChangeShapes Go.WideShapes Go.ChangeAt Go.RowKit

theorem tW : SlT Try.prog prec 54 56 := slT_of (z := .agg #[.int .i64 0, .int .i64 0]) (n := 2) (by_ := 16) (by kernel_rfl) (by kernel_rfl) rfl (by decide) rfl
/-- A batch's arguments and members, and the wants that it took. -/
structure AS where
  zs : List Int
  ms : List P2
  ts : List P2
def AS.add (most : Int) (S : AS) (x : P2) : AS := if addY S.zs x.b most then ⟨addA S.zs x.b most, addM S.zs S.ms x.a x.b most, S.ts ++ [x]⟩ else S
def allS (most : Int) : List P2 → AS
  | [] => ⟨[], [], []⟩
  | x :: V => V.foldl (AS.add most) ⟨[x.b], [⟨x.a, 0⟩], [x]⟩
theorem allS_snoc (most : Int) {U : List P2} (h : U ≠ []) (x : P2) : allS most (U ++ [x]) = (allS most U).add most x := by
  cases U with
  | nil => exact absurd rfl h
  | cons y U => simp [allS]
theorem addA_len (zs : List Int) (x most : Int) : (addA zs x most).length ≤ zs.length + 1 := by unfold addA; split; omega; split; omega; simp
theorem addM_len (zs : List Int) (ms : List P2) (id x most : Int) : (addM zs ms id x most).length ≤ ms.length + 1 := by unfold addM; split; simp; omega
/-- None longer than k. -/
def AS.upto (S : AS) (k : Nat) : Prop := S.zs.length ≤ k ∧ S.ms.length ≤ k ∧ S.ts.length ≤ k
theorem AS.upto_add {S : AS} {k : Nat} (h : S.upto k) (most : Int) (x : P2) : (S.add most x).upto (k + 1) := by
  unfold AS.add
  split
  · have h1 := addA_len S.zs x.b most
    have h2 := addM_len S.zs S.ms x.a x.b most
    refine ⟨?_, ?_, ?_⟩
    · have := h.1; simp only; omega
    · have := h.2.1; simp only; omega
    · have := h.2.2; simp
      omega
  · exact ⟨Nat.le_succ_of_le h.1, Nat.le_succ_of_le h.2.1, Nat.le_succ_of_le h.2.2⟩

/-- A batch that was put into a new variable. -/
structure Put (u wq : World) (g : Nat) (A : Option Addr) (n c : Nat) (M : Option Addr) (m d : Nat) (zs : List Int) (ms : List P2) : Prop where
  lt : u.heap.size ≤ g
  blk : wq.heap[g]? = some (bobj 31 A n c M m d)
  bat : Bat wq A n c M m d zs ms
  fr : Fresh u.heap.size A ∧ Fresh u.heap.size M
  low : Below u.heap.size u wq
section
variable {u w5 : World} {A M : Option Addr} {n c m d : Nat} {zs : List Int} {ms : List P2}
theorem put_new (h : Bat w5 A n c M m d zs ms) (hf : Fresh u.heap.size A ∧ Fresh u.heap.size M) (hb : Below u.heap.size u w5) : Put u (w5.alloc (bobj 31 A n c M m d)) w5.heap.size A n c M m d zs ms :=
  ⟨hb.size, heap_alloc_at _ _, h.below (below_alloc _ _), hf, hb.alloc hb.size _⟩
theorem put_set {o : Obj} {A' M' : Option Addr} {n' c' m' d' : Nat} (h : Bat w5 A n c M m d zs ms) (ho : o = bobj 31 A' n' c' M' m' d') (hf : Fresh (u.alloc o).heap.size A ∧ Fresh (u.alloc o).heap.size M) (hb : Below (u.alloc o).heap.size (u.alloc o) w5) :
    Put u ((w5.setCell ⟨u.heap.size, 0, none⟩ (.slice A n c)).setCell ⟨u.heap.size, 1, none⟩ (.slice M m d)) u.heap.size A n c M m d zs ms := by
  have hs : (u.alloc o).heap.size = u.heap.size + 1 := by simp
  have k5 : w5.heap[u.heap.size]? = some (bobj 31 A' n' c' M' m' d') := by rw [← ho]; exact kb_below (heap_alloc_at u o) hb
  have f := sets_bfrm w5 u.heap.size (.slice A n c) (.slice M m d)
  have hb' : Below u.heap.size u w5 := (below_alloc u o).trans (hb.mono (by omega))
  exact ⟨Nat.le_refl _, sets_b k5 A M n c m d, h.stay f k5, ⟨hf.1.mono (by omega), hf.2.mono (by omega)⟩, hb'.trans (f.below hb'.size (fun j hj e => by rw [e] at hj; omega))⟩
end

/-- Where all stands: its batch lies in the variable g6, those that it took are a row of its own, apart from the batch's. -/
structure AllR (w wr : World) (g6 : Nat) (v7 : Value) (A : Option Addr) (n c : Nat) (M : Option Addr) (m d : Nat) (S : AS) : Prop where
  low : Below w.heap.size w wr
  lt : w.heap.size < g6
  k4 : wr.heap[w.heap.size]? = some (bobj 31 none 0 0 none 0 0)
  k6 : wr.heap[g6]? = some (bobj 31 A n c M m d)
  bat : Bat wr A n c M m d S.zs S.ms
  own : OwnR prec wr w.heap.size 56 v7 S.ts
  apA : ∀ b off, A = some ⟨b, off, none⟩ → 0 < n → v7.ownBlock ≠ some b
  apM : ∀ b off, M = some ⟨b, off, none⟩ → 0 < m → v7.ownBlock ≠ some b
section
variable {w wr wq w7 : World} {g6 g9 : Nat} {v7 v8 : Value} {A A' M M' : Option Addr} {n c m d n' c' m' d' : Nat} {S : AS} {zs : List Int} {ms ts : List P2}
theorem AllR.below (h : AllR w wr g6 v7 A n c M m d S) (hb : Below wr.heap.size wr wq) : AllR w wq g6 v7 A n c M m d S :=
  ⟨h.low.trans (hb.mono h.low.size), h.lt, kb_below h.k4 hb, kb_below h.k6 hb, h.bat.below hb, OwnR.below h.own hb, h.apA, h.apM⟩
theorem AllR.set (h : AllR w wr g6 v7 A n c M m d S) (p : Put wr wq g9 A' n' c' M' m' d' zs ms) (hf : Frm (· = g6) wq w7) (h7 : w7.heap[g6]? = some (bobj 31 A' n' c' M' m' d')) : AllR w w7 g6 v7 A' n' c' M' m' d' ⟨zs, ms, S.ts⟩ := by
  have hq := h.below p.low
  have hlt := h.lt
  refine ⟨hq.low.trans (hf.below hq.low.size (fun j hj e => by rw [e] at hj; omega)), h.lt, (hf.block _ (heap_lt hq.k4) (fun e => by have : w.heap.size = g6 := e; omega)).trans hq.k4, h7, p.bat.stay hf hq.k6, hq.own.frm hf (fun j e cs hc => ?_), fun b off e _ hb => ?_, fun b off e _ hb => ?_⟩
  · rw [show j = g6 from e, hq.k6] at hc
    cases hc
  · have h1 := p.fr.1 b off e
    have h2 := (h.own.1.lt b hb).2
    omega
  · have h1 := p.fr.2 b off e
    have h2 := (h.own.1.lt b hb).2
    omega
theorem AllR.grow (h : AllR w wr g6 v7 A n c M m d S) (own' : OwnR prec wq w.heap.size 56 v8 ts) (gr : wr.grownBy wq v7.ownBlock) (ob : v8.ownBlock = v7.ownBlock ∨ v8.ownBlock = some wr.heap.size) : AllR w wq g6 v8 A n c M m d ⟨S.zs, S.ms, ts⟩ := by
  have f : Frm (fun j => v7.ownBlock = some j) wr wq := ⟨gr.os, gr.tape, gr.output, gr.size, fun j hj hn => gr.block j hj (fun e => hn e.symm)⟩
  have stay : ∀ {j : Nat} {A M : Option Addr} {n c m d : Nat}, wr.heap[j]? = some (bobj 31 A n c M m d) → wq.heap[j]? = some (bobj 31 A n c M m d) := fun {j A M n c m d} hj => (f.block j (heap_lt hj) (fun e => by
    obtain ⟨cs, ho⟩ := OwnR.block h.own e
    rw [hj] at ho
    cases ho)).trans hj
  refine ⟨h.low.trans (f.below h.low.size (fun j hj e => by have := h.own.low j e; omega)), h.lt, stay h.k4, stay h.k6, ⟨h.bat.ar.apart f (fun b off e hn => h.apA b off e hn), h.bat.mr.apart f (fun b off e hn => h.apM b off e hn), h.bat.nc, h.bat.md, h.bat.fits⟩, own', fun b off e hn hb => ?_, fun b off e hn hb => ?_⟩
  · rcases ob with ob | ob
    · exact h.apA b off e hn (by rw [← ob]; exact hb)
    · have := h.bat.ar.lt e hn
      rw [ob] at hb
      injection hb with hb
      omega
  · rcases ob with ob | ob
    · exact h.apM b off e hn (by rw [← ob]; exact hb)
    · have := h.bat.mr.lt e hn
      rw [ob] at hb
      injection hb with hb
      omega
end

set_option maxRecDepth 100000 in
set_option maxHeartbeats 4000000 in
theorem all_any (L : Option Addr) (l k : Nat) (V : List P2) (most : Int) (w : World) (hr : RowR prec w L l V) (hf : ∀ x ∈ V, x.Fits) :
    Calls Try.prog 25 #[.slice L l k, .int .i64 most] w fun r w' => ∃ A n c M m d T t f, r = .returned (.tuple #[batV A n c M m d, .slice T t f]) ∧ Bat w' A n c M m d (allS most (V.take 20)).zs (allS most (V.take 20)).ms ∧ RowR prec w' T t (allS most (V.take 20)).ts ∧ t ≤ f ∧ (allS most (V.take 20)).upto 20 ∧ Below w.heap.size w w' := by
  have hml := hr.2.1
  unfold maxLen at hml
  have VL := Lib.hid hr.1
  have HF := Lib.hid hf
  by_cases hl : l = 0
  · have hl' : ((l : Int) == 0) = true := by simp [hl]
    have hV : V = [] := List.eq_nil_of_length_eq_zero (by rw [VL.out, hl])
    have HV := Lib.hid hV
    clear hr hl hV hf
    go_enter Try.func25, Try.ntmps25
    go_wp2
    refine bodyPost_ret (v := .tuple #[batV none 0 0 none 0 0, .slice none 0 0]) (results_agg1 Try.results25 rfl (loadB (heap_alloc_at w _)) rfl) rfl ?_
    rw [HV.out]
    exact ⟨_, _, _, _, _, _, _, _, _, rfl, ⟨RowR.nil _, RowR.nil _, Nat.le_refl _, Nat.le_refl _, by intro x hx; cases hx⟩, RowR.nil _, Nat.le_refl _, ⟨Nat.zero_le _, Nat.zero_le _, Nat.zero_le _⟩, below_alloc w _⟩
  · have hl' : ((l : Int) == 0) = false := by simp [hl]
    have hl0 : 0 < l := by omega
    obtain ⟨lb, lo, x0, rfl, hx0, q0, q1⟩ := hr.pair_at (i := 0) (by omega)
    obtain ⟨a0, b0⟩ := x0
    have hfit := hf _ (List.mem_of_getElem? hx0)
    have HX0 := Lib.hid hx0
    have HR := Lib.hid hr
    simp only [Nat.zero_mul, Nat.add_zero] at q0 q1
    have hone := fun wx => bone_any a0 b0 hfit.1 wx
    have HO := Lib.hid hone
    clear hr hf hfit hx0 hone
    obtain ⟨u, hu⟩ : ∃ u, w.alloc (bobj 31 none 0 0 none 0 0) = u := ⟨_, rfl⟩
    have k4 : u.heap[w.heap.size]? = some (bobj 31 none 0 0 none 0 0) := by rw [← hu]; exact heap_alloc_at w _
    have bu : Below w.heap.size w u := by rw [← hu]; exact below_alloc w _
    have hs : ∀ wx, Below u.heap.size u wx → wx.cell? ⟨lb, lo, none⟩ = some (.int .i64 a0) ∧ wx.cell? ⟨lb, lo + 1, none⟩ = some (.int .i64 b0) := fun wx hb => ⟨cell_later (bu.trans (hb.mono bu.size)) q0, cell_later (bu.trans (hb.mono bu.size)) q1⟩
    have K4 := Lib.hid k4
    have BU := Lib.hid bu
    have HS := Lib.hid hs
    have HU := Lib.hid hu
    have SU : Hid (u.heap.size = w.heap.size + 1) := Lib.hid (by rw [← hu]; simp)
    clear k4 bu hs hu q0 q1
    go_enter Try.func25, Try.ntmps25
    go_wp2
    rw [HU.out]
    clear HU
    go_cut [6] (fun v6 wq => ∃ (g6 : Nat) (A : Option Addr) (c : Nat) (M : Option Addr) (d : Nat), v6 = .pointer (some ⟨g6, 0, none⟩) ∧ Put u wq g6 A 1 c M 1 d [b0] [⟨a0, 0⟩])
    case first =>
      have D0 : Hid (Below u.heap.size u u.drew) := Lib.hid (ali_below (drew_ali _))
      have D1 : Hid (Below u.heap.size u (u.alloc (bobj 31 none 0 0 none 0 0)).drew) := Lib.hid (below_ali (below_alloc _ _) (drew_ali _))
      go_region_held3 (fun wx => wx.cell? ⟨lb, lo, none⟩ = some (.int .i64 a0) ∧ wx.cell? ⟨lb, lo + 1, none⟩ = some (.int .i64 b0))
        (first
          | with_reducible exact HS.out _ D0.out
          | with_reducible exact HS.out _ D1.out
          | with_reducible exact HS.out _ t5
          | with_reducible exact HS.out _ (t5.alloc t5.size _)
          | (have z5 := y5; exact HS.out _ (put_set (u := u) b5 rfl f5 z5).low)
          | (exact HS.out _ (put_new (u := u) b5 f5 t5).low))
        (first
          | (go_at_call 18; refine (HO.out u.drew).mono ?_; rintro r w5 ⟨A5, c5, M5, d5, rfl, b5, f5, l5⟩; have t5 := D0.out.trans (l5.mono D0.out.size))
          | (go_at_call 18; refine (HO.out _).mono ?_; rintro r w5 ⟨A5, c5, M5, d5, rfl, b5, f5, l5⟩; have y5 : Below (u.alloc (bobj 31 none 0 0 none 0 0)).heap.size (u.alloc (bobj 31 none 0 0 none 0 0)) w5 := (ali_below (drew_ali _)).trans l5; have t5 : Below u.heap.size u w5 := (below_alloc u _).trans (y5.mono (by simp));
             have k5 := kb_below (heap_alloc_at u (bobj 31 none 0 0 none 0 0)) y5; obtain ⟨z0, z1⟩ := bobj_cells k5; have zf0 := frozen_of k5 0; have zf1 := frozen_of k5 1))
      all_goals (go_wp2; go_meet)
      · exact ⟨_, _, _, _, _, rfl, put_new (u := u) b5 f5 t5⟩
      · exact ⟨_, _, _, _, _, rfl, put_set (u := u) b5 rfl f5 y5⟩
    case rest =>
      obtain ⟨g6, A6, c6, M6, d6, rfl, p6⟩ := hcut
      have P6 := Lib.hid p6
      have hw0 := (BU.out.trans (p6.low.mono BU.out.size))
      have r0 := HR.out.later hw0
      obtain ⟨lb', lo', x0', e0, hx0', q0, q1⟩ := r0.pair_at (i := 0) hl0
      cases e0
      obtain rfl : x0' = ⟨a0, b0⟩ := Option.some.inj (hx0'.symm.trans HX0.out)
      simp only [Nat.zero_mul, Nat.add_zero] at q0 q1
      have hstart : AllR w (wc.alloc (.cells #[.int .i64 a0, .int .i64 b0] 56)) g6 (.slice (some ⟨wc.heap.size, 0, none⟩) 1 1) A6 1 c6 M6 1 d6 ⟨[b0], [⟨a0, 0⟩], [⟨a0, b0⟩]⟩ := by
        have hs := SU.out
        have hlt := p6.lt
        have ba := below_alloc wc (.cells #[.int .i64 a0, .int .i64 b0] 56)
        refine ⟨hw0.trans (ba.mono hw0.size), by omega, kb_alloc (kb_below K4.out p6.low) _, kb_alloc p6.blk _, p6.bat.below ba, OwnR.one (R := prec) wc ⟨a0, b0⟩ _ rfl hw0.size, fun b off e hn hb => ?_, fun b off e hn hb => ?_⟩
        · have := p6.bat.ar.lt e hn
          injection hb with hb
          have : wc.heap.size = b := hb
          omega
        · have := p6.bat.mr.lt e hn
          injection hb with hb
          have : wc.heap.size = b := hb
          omega
      have ST := Lib.hid hstart
      clear hstart hx0' r0 hw0 p6
      obtain ⟨lim, hlim⟩ : ∃ lim, (if l < 20 then l else 20) = lim := ⟨_, rfl⟩
      have hlim1 : lim ≤ l ∧ lim ≤ 20 ∧ 1 ≤ lim ∧ (lim < 20 → lim = l) := by rw [← hlim]; split <;> omega
      have h1V : V.take 1 = [⟨a0, b0⟩] := by rw [take_more HX0.out]; simp
      have H1V := Lib.hid h1V
      have HLIM := Lib.hid hlim1
      clear hlim hlim1 h1V
      go_wp2
      clear q0 q1
      go_loopg [7, 8] (lim - 1) (fun g v7 v8 wr => ∃ (i : Nat) (A : Option Addr) (n c : Nat) (M : Option Addr) (m d : Nat), i + g = lim ∧ 1 ≤ i ∧ v8 = .int .i64 i ∧ (allS most (V.take i)).upto i ∧ AllR w wr g6 v7 A n c M m d (allS most (V.take i)))
      case atStart =>
        have := HLIM.out
        refine ⟨1, A6, 1, c6, M6, 1, d6, by omega, Nat.le_refl _, rfl, ?_, ?_⟩
        · rw [H1V.out]; exact ⟨Nat.le_refl _, Nat.le_refl _, Nat.le_refl _⟩
        · rw [H1V.out]; exact ST.out
      case round =>
        obtain ⟨i, A, n, c, M, m, d, hg, hi0, rfl, hup, hall⟩ := hrel
        have G := Lib.hid hg
        have UP := Lib.hid hup
        have AL := Lib.hid hall
        have hlm := HLIM.out
        clear hg hup hall ST
        by_cases hin : i < lim
        · have hi1 : (i : Int) < l := by omega
          have hi2 : (i : Int) < 20 := by omega
          have hi3 : i < l := by omega
          obtain ⟨lb', lo', x, e0, hx, q0, q1⟩ := (HR.out.later AL.out.low).pair_at (i := i) hi3
          cases e0
          obtain ⟨xa, xb⟩ := x
          have hfit := HF.out _ (List.mem_of_getElem? hx)
          have hnl : n ≤ 1000 := by have h1 := AL.out.bat.alen; have h2 := UP.out.1; omega
          have hmlen : m ≤ 1000 := by have h1 := AL.out.bat.mlen; have h2 := UP.out.2.1; omega
          have hadd : ∀ wx, Below wr.heap.size wr wx → Calls Try.prog 13 #[.agg #[.slice A n c, .slice M m d], .int .i64 xa, .int .i64 xb, .int .i64 most] wx fun r w' => ∃ A' n' c' M' m' d', r = .returned (.tuple #[batV A' n' c' M' m' d', .bool (addY (allS most (V.take i)).zs xb most)]) ∧ Bat w' A' n' c' M' m' d' (addA (allS most (V.take i)).zs xb most) (addM (allS most (V.take i)).zs (allS most (V.take i)).ms xa xb most) ∧ (Fresh wx.heap.size A' ∧ Fresh wx.heap.size M') ∧ Below wx.heap.size wx w' :=
            fun wx hb => badd_any A n c M m d _ _ xa xb most wx (AL.out.bat.below hb) hfit.1 hnl hmlen
          have hstep : allS most (V.take (i + 1)) = (allS most (V.take i)).add most ⟨xa, xb⟩ := by
            rw [take_more hx]
            exact allS_snoc most (fun e => by have h1 := congrArg List.length e; rw [List.length_take, VL.out] at h1; simp at h1; omega) _
          have hs : ∀ wx, Below wr.heap.size wr wx → wx.cell? ⟨lb, lo + i * 2, none⟩ = some (.int .i64 xa) ∧ wx.cell? ⟨lb, lo + i * 2 + 1, none⟩ = some (.int .i64 xb) ∧ wx.cell? ⟨g6, 0, none⟩ = some (.slice A n c) ∧ wx.cell? ⟨g6, 1, none⟩ = some (.slice M m d) := fun wx hb => ⟨cell_later hb q0, cell_later hb q1, cells_later AL.out.k6 hb⟩
          have HADD := Lib.hid hadd
          have HSTEP := Lib.hid hstep
          have HS := Lib.hid hs
          have HX := Lib.hid hx
          clear hadd hstep hs hx hfit q0 q1
          generalize allS most (V.take i) = SS at *
          obtain ⟨y, hy⟩ : ∃ y, addY SS.zs xb most = y := ⟨_, rfl⟩
          rw [hy] at HADD
          have HY := Lib.hid hy
          clear hy
          have D0 : Hid (Below wr.heap.size wr wr.drew) := Lib.hid (ali_below (drew_ali _))
          have D1 : Hid (Below wr.heap.size wr (wr.alloc (bobj 31 none 0 0 none 0 0)).drew) := Lib.hid (below_ali (below_alloc _ _) (drew_ali _))
          go_wp2
          go_cut [9, 10] (fun v9 v10 wq => ∃ (g9 : Nat) (A' : Option Addr) (n' c' : Nat) (M' : Option Addr) (m' d' : Nat), v9 = .pointer (some ⟨g9, 0, none⟩) ∧ v10 = .bool y ∧ Put wr wq g9 A' n' c' M' m' d' (addA SS.zs xb most) (addM SS.zs SS.ms xa xb most))
          case first =>
            go_region_held3 (fun wx => wx.cell? ⟨lb, lo + i * 2, none⟩ = some (.int .i64 xa) ∧ wx.cell? ⟨lb, lo + i * 2 + 1, none⟩ = some (.int .i64 xb) ∧ wx.cell? ⟨g6, 0, none⟩ = some (.slice A n c) ∧ wx.cell? ⟨g6, 1, none⟩ = some (.slice M m d))
              (first
                | with_reducible exact HS.out _ D0.out
                | with_reducible exact HS.out _ D1.out
                | with_reducible exact HS.out _ t5
                | with_reducible exact HS.out _ (t5.alloc t5.size _)
                | (have z5 := y5; exact HS.out _ (put_set (u := wr) b5 rfl f5 z5).low)
                | (exact HS.out _ (put_new (u := wr) b5 f5 t5).low))
              (first
                | (go_at_call 13; refine (HADD.out wr.drew D0.out).mono ?_; rintro r w5 ⟨A5, n5, c5, M5, m5, d5, rfl, b5, f5, l5⟩; have t5 := D0.out.trans (l5.mono D0.out.size))
                | (go_at_call 13; refine (HADD.out _ D1.out).mono ?_; rintro r w5 ⟨A5, n5, c5, M5, m5, d5, rfl, b5, f5, l5⟩; have y5 : Below (wr.alloc (bobj 31 none 0 0 none 0 0)).heap.size (wr.alloc (bobj 31 none 0 0 none 0 0)) w5 := (ali_below (drew_ali _)).trans l5; have t5 : Below wr.heap.size wr w5 := (below_alloc wr _).trans (y5.mono (by simp));
                   have k5 := kb_below (heap_alloc_at wr (bobj 31 none 0 0 none 0 0)) y5; obtain ⟨z0, z1⟩ := bobj_cells k5; have zf0 := frozen_of k5 0; have zf1 := frozen_of k5 1))
            all_goals (go_wp2; go_meet)
            · exact ⟨_, _, _, _, _, _, _, rfl, rfl, put_new (u := wr) b5 f5 t5⟩
            · exact ⟨_, _, _, _, _, _, _, rfl, rfl, put_set (u := wr) b5 rfl f5 y5⟩
          case rest =>
            obtain ⟨g9, A', n', c', M', m', d', rfl, rfl, p9⟩ := hcut
            have P9 := Lib.hid p9
            have A9 := Lib.hid (AL.out.below p9.low)
            obtain ⟨s0, s1⟩ := bobj_cells p9.blk
            clear p9
            cases y with
            | false =>
              go_wp2
              go_roundg (lim - (i + 1))
              case measure => have := G.out; omega
              case rel =>
                refine ⟨i + 1, A, n, c, M, m, d, by omega, by omega, by simp, ?_, ?_⟩
                · rw [HSTEP.out]; exact AS.upto_add UP.out most _
                · rw [HSTEP.out, AS.add, if_neg (by rw [HY.out]; simp)]; exact A9.out
            | true =>
              go_wp2_with (first
                | (refine wpList_store_agg rfl 31 _ _ rfl g6 [.slice A n c, .slice M m d] [.slice A' n' c', .slice M' m' d'] rfl rfl ?hz rfl sizeB (onesB _ _ _ _ _ _) ?_; (case hz => exact A9.out.k6); intro w7 k7 f7 hz7;
                   have A7 := Lib.hid (AL.out.set P9.out f7 k7);
                   have hq := HS.out _ P9.out.low;
                   obtain ⟨q0, q1, _, _⟩ := hq; clear s0 s1;
                   have q0' : w7.cell? ⟨lb, lo + i * 2, none⟩ = some (.int .i64 xa) := (World.cell?_of_block (f7.block lb (cell_lt q0) (fun e => by have h1 := HR.out.lt rfl hl0; have h2 := AL.out.lt; have h3 : lb = g6 := e; omega))).trans q0;
                   have q1' : w7.cell? ⟨lb, lo + i * 2 + 1, none⟩ = some (.int .i64 xb) := (World.cell?_of_block (f7.block lb (cell_lt q0) (fun e => by have h1 := HR.out.lt rfl hl0; have h2 := AL.out.lt; have h3 : lb = g6 := e; omega))).trans q1;
                   have AX := Lib.hid (A7.out.below (below_alloc w7 (.cells #[.int .i64 xa, .int .i64 xb] 56)));
                   have OWN : Hid (OwnR prec (w7.alloc (.cells #[.int .i64 xa, .int .i64 xb] 56)) w.heap.size 56 u7 SS.ts) := Lib.hid AX.out.own;
                   have src := RowR.one (R := prec) w7 ⟨xa, xb⟩ 56 (cs := #[.int .i64 xa, .int .i64 xb]) rfl;
                   rw [hz7] at src;
                   have SRC := Lib.hid src;
                   have LEN : Hid (SS.ts.length + 1 ≤ 1048576) := Lib.hid (by have := UP.out.2.2; omega);
                   clear q0 q1 k7 f7 src)
                | (at_builtin; refine wpList_appS tW (base := w.heap.size) rfl (.tmp 56) (.tmp 61) rfl rfl rfl OWN.out SRC.out LEN.out AX.out.low.size ?_;
                   intro v8 w8 own8 gr8 ob8; have A8 := Lib.hid (AX.out.grow own8 gr8 ob8); clear own8 gr8 ob8))
              go_roundg (lim - (i + 1))
              case measure => have := G.out; omega
              case rel =>
                refine ⟨i + 1, A', n', c', M', m', d', by omega, by omega, by simp, ?_, ?_⟩
                · rw [HSTEP.out]; exact AS.upto_add UP.out most _
                · rw [HSTEP.out, AS.add, if_pos HY.out]; exact A8.out
        · have hil : i = lim := by have := G.out; omega
          subst hil
          have hVi : V.take i = V.take 20 := by
            by_cases h20 : i < 20
            · have := hlm.2.2.2 h20
              rw [List.take_of_length_le (by rw [VL.out]; omega), List.take_of_length_le (by rw [VL.out]; omega)]
            · rw [show i = 20 by omega]
          rw [hVi] at AL UP
          obtain ⟨T, t, f, hv7, rt, _, htf, _⟩ := AL.out.own.row'
          subst hv7
          have RT := Lib.hid rt
          obtain ⟨s0, s1⟩ := bobj_cells AL.out.k6
          have hex : ((i : Int) < l ∧ ¬ (i : Int) < 20) ∨ ¬ (i : Int) < l := by omega
          have h20 := hlm.2.1
          clear rt hVi hlm
          rcases hex with ⟨he1, he2⟩ | he1
          all_goals
            go_wp2_with (first
              | (refine wpList_store_agg rfl 31 _ _ rfl w.heap.size [.slice none 0 0, .slice none 0 0] [.slice A n c, .slice M m d] rfl rfl ?hz rfl sizeB (onesB _ _ _ _ _ _) ?_; (case hz => exact AL.out.k4); intro w7 k7 f7 _;
                 have K7 := Lib.hid k7; have F7 := Lib.hid f7; clear k7 f7 s0 s1))
            refine bodyPost_ret (v := .tuple #[batV A n c M m d, .slice T t f]) (results_agg1 Try.results25 rfl (loadB K7.out) rfl) rfl ?_
            exact ⟨_, _, _, _, _, _, _, _, _, rfl, AL.out.bat.stay F7.out AL.out.k4, RT.out.stayP F7.out AL.out.k4, htf, ⟨Nat.le_trans UP.out.1 (by omega), Nat.le_trans UP.out.2.1 (by omega), Nat.le_trans UP.out.2.2 (by omega)⟩, AL.out.low.trans (F7.out.below AL.out.low.size (fun j hj e => by rw [e] at hj; omega))⟩
end Go.Proofs.Ythldhcjkjchbpaa
