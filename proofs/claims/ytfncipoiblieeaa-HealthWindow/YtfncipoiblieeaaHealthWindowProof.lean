/- What is proved: HealthWindow of porpoiselaw16 answers true for every input, and leaves its arguments as they were; conditions: those of the given row alone. -/
import Derived.Test.YtfncipoiblieeaaKit
import Derived.Test.YtfncipoiblieeaaLaw16
import Derived.Test.YtfncipoiblieeaaWinCount
import Derived.Deep.LoopGhost
namespace Go.Proofs.Ytfncipoiblieeaa.healthWindow
open Go.ChangeShapes Go.WideShapes Go.ChangeAt Go.RowKit Go.Deep
open Go.ChangeMaps (open_string shut_string)
set_option linter.unusedVariables false

theorem own : ownKnob Try.prog.godebug = none := by kernel_rfl
theorem laidOut : laidOutB Try.prog = true := by kernel_rfl

/-- What was counted, one by one. -/
def cntE (l : List Ev) (W : Nat) : Cnt := fun q k => (l.countP (fun e => decide (e.kind = (k : Int) ∧ e.tm / W = q)) : Nat)
theorem cntE_snoc (l : List Ev) (e : Ev) (W q k : Nat) : cntE (l ++ [e]) W q k = cntE l W q k + if e.kind = (k : Int) ∧ e.tm / W = q then 1 else 0 := by
  unfold cntE
  rw [List.countP_append, List.countP_singleton]
  by_cases h : e.kind = (k : Int) ∧ e.tm / W = q
  · rw [if_pos (decide_eq_true h), if_pos h]; rfl
  · rw [if_neg (by simpa using h), if_neg h]; rfl
theorem cntE_le (l : List Ev) (W q k : Nat) : 0 ≤ cntE l W q k ∧ cntE l W q k ≤ l.length := by
  unfold cntE
  have := List.countP_le_length (p := fun e => decide (e.kind = (k : Int) ∧ e.tm / W = q)) (l := l)
  omega
theorem cntE_upd (l : List Ev) (e : Ev) (W k : Nat) (hk : e.kind = k) (hl : l.length ≤ 1000) : upd (cntE l W) (e.tm / W) k (addS (cntE l W (e.tm / W) k) 1) = cntE (l ++ [e]) W := by
  have hb := cntE_le l W (e.tm / W) k
  rw [show addS (cntE l W (e.tm / W) k) 1 = cntE l W (e.tm / W) k + 1 by unfold addS; rw [if_pos (by omega)]]
  funext q j
  rw [cntE_snoc]
  by_cases h : q = e.tm / W ∧ j = k
  · obtain ⟨rfl, rfl⟩ := h
    rw [upd_same, if_pos ⟨hk, rfl⟩]
  · rw [upd_other h, if_neg (fun h' => h ⟨h'.2.symm, by have := h'.1; omega⟩)]; omega
theorem cntE_nil (W : Nat) : (fun _ _ => 0 : Cnt) = cntE [] W := rfl
theorem cntE_cons (l : List Ev) (e : Ev) (W q k : Nat) : cntE (e :: l) W q k = cntE l W q k + if e.kind = (k : Int) ∧ e.tm / W = q then 1 else 0 := by
  unfold cntE
  rw [List.countP_cons]
  by_cases h : e.kind = (k : Int) ∧ e.tm / W = q
  · rw [if_pos (decide_eq_true h), if_pos h]; rfl
  · rw [if_neg (by simpa using h), if_neg h]; rfl
theorem tot_hits (W b k B : Nat) : ∀ l : List Ev, tot (cntE l W) b k B = (hits l b B W k : Int)
  | [] => tot_zero (F := cntE [] W) B (fun q _ => rfl)
  | e :: l => by
    have ih := tot_hits W b k B l
    rw [tot_add (G := cntE l W) (H := fun q j => if e.kind = (j : Int) ∧ e.tm / W = q then 1 else 0) (fun q => cntE_cons l e W q k), ih]
    have hc : hits (e :: l) b B W k = hits l b B W k + if Ev.inn b B W k e = true then 1 else 0 := by unfold hits; rw [List.countP_cons]
    rw [hc]
    unfold Ev.inn
    by_cases hk : e.kind = (k : Int)
    · rw [tot_one (F := fun q j => if e.kind = (j : Int) ∧ e.tm / W = q then 1 else 0) (q0 := e.tm / W) (x := 1) (if_pos ⟨hk, rfl⟩) (fun q hq => if_neg (fun h => hq h.2.symm)) B]
      by_cases h : e.tm / W ≤ b ∧ b < e.tm / W + B
      · rw [if_pos h, if_pos (by simpa using ⟨hk, h⟩)]; rfl
      · rw [if_neg h, if_neg (by simp only [decide_eq_true_eq]; exact fun h' => h h'.2)]; rfl
    · rw [tot_zero (F := fun q j => if e.kind = (j : Int) ∧ e.tm / W = q then 1 else 0) B (fun q _ => if_neg (fun h => hk h.1)), if_neg (by simp only [decide_eq_true_eq]; exact fun h => hk h.1)]; rfl
theorem told_is (l : List Ev) (now B W : Nat) (hB : 1 ≤ B) (hW : 1 ≤ W) (hl : l.length ≤ 1000) : arr5 (satS (tot (cntE l W) (now / W) 0 B)) (satS (tot (cntE l W) (now / W) 1 B)) (satS (tot (cntE l W) (now / W) 2 B)) (satS (tot (cntE l W) (now / W) 3 B)) (satS (tot (cntE l W) (now / W) 4 B)) = aggV (ofK l now B W).vals := by
  have hh : ∀ k, satS (tot (cntE l W) (now / W) k B) = (hits l (now / W) B W k : Int) := fun k => by
    have := hits_le l (now / W) B W k
    rw [tot_hits, satS_of (by omega)]
  rw [hh, hh, hh, hh, hh]
  have e1 : ofK l now B W = K5.of (fun k => (hits l (now / W) B W k : Int)) := by unfold ofK; rw [if_neg (by omega)]; rfl
  rw [e1]
  rfl
theorem counts_is (b B W now now' : Nat) (l : List Ev) (w : World) (h : Win w b B W (now / W) (cntE l W)) (hn : now' ≤ 18446744073709551615) (hle : now ≤ now') (hl : l.length ≤ 1000) :
    Calls Try.prog 23 #[.pointer (some ⟨b, 0, none⟩), .int .u64 now'] w fun r w' => r = .returned (.agg (aggV (ofK l now' B W).vals)) ∧ Frm (· = b) w w' ∧ Win w' b B W (now' / W) (cntE l W) := by
  have hm : max (now' / W) (now / W) = now' / W := by have := Nat.div_le_div_right (c := W) hle; omega
  have := counts_win b B W (now / W) now' (cntE l W) w h hn
  rw [hm, told_is l now' B W h.B1 h.W1 hl] at this
  exact this
theorem add_is (b B W now now' : Nat) (e : Ev) (k : Nat) (l : List Ev) (w : World) (h : Win w b B W (now / W) (cntE l W)) (hn : now' ≤ 18446744073709551615) (hle : now ≤ now') (hl : l.length ≤ 1000) (hk : e.kind = k) (hk5 : k < 5) (ht : e.tm = now') :
    Calls Try.prog 22 #[.pointer (some ⟨b, 0, none⟩), .int .u64 now', .int .i64 e.kind, .int .u64 1] w fun r w' => r = .returned (.bool true) ∧ Frm (· = b) w w' ∧ Win w' b B W (now' / W) (cntE (l ++ [e]) W) := by
  have hm : max (now' / W) (now / W) = now' / W := by have := Nat.div_le_div_right (c := W) hle; omega
  have := add_win b B W (now / W) now' k 1 (cntE l W) w h hn hk5 (by omega) (by omega)
  rw [hm, ← ht, cntE_upd l e W k hk hl] at this
  rw [hk, ← ht]
  exact this
theorem tREv : SlT Try.prog erec 32 45 := slT_of (z := .agg #[.int .u64 0, .int .i64 0]) (n := 2) (by_ := 16) Try.underlying32 (by kernel_rfl) rfl (by decide) rfl
/-- A window, and the events that it counted, beside it. -/
structure WL (g : Nat) (w0 w : World) (b B W now : Nat) (v : Value) (l : List Ev) : Prop where
  win : Win w b B W (now / W) (cntE l W)
  own : OwnR erec w g 45 v l
  low : Below g w0 w
  new : g ≤ b
  len : l.length ≤ 1000
  fit : ∀ e ∈ l, e.Fits
section
variable {g : Nat} {w0 w w' : World} {b B W now now' : Nat} {v : Value} {l l' : List Ev}
theorem WL.sz (h : WL g w0 w b B W now v l) : g ≤ w.heap.size := Nat.le_of_lt (Nat.lt_of_le_of_lt h.new h.win.lt)
theorem WL.row_stays (h : WL g w0 w b B W now v l) (hf : Frm (· = b) w w') : OwnR erec w' g 45 v l :=
  h.own.frm hf (fun j hj cs hc => by
    subst hj
    obtain ⟨Z, h1, _⟩ := h.win.blk
    rw [h1] at hc
    injection hc with hc
    injection hc with _ hc
    exact absurd hc (by decide))
theorem WL.on (h : WL g w0 w b B W now v l) (hf : Frm (· = b) w w') (hw : Win w' b B W (now' / W) (cntE l W)) : WL g w0 w' b B W now' v l :=
  ⟨hw, h.row_stays hf, h.low.trans (hf.below h.sz (fun j hj e => by have := h.new; omega)), h.new, h.len, h.fit⟩
theorem WL.below (h : WL g w0 w b B W now v l) (hb : Below w.heap.size w w') : WL g w0 w' b B W now v l :=
  ⟨h.win.below hb, h.own.below hb, h.low.trans (hb.mono h.sz), h.new, h.len, h.fit⟩
end
theorem WL.grown {g : Nat} {w0 w w2 w' : World} {b B W now : Nat} {v v' : Value} {l : List Ev} {e : Ev} (hw : Win w b B W (now / W) (cntE (l ++ [e]) W)) (ho : OwnR erec w g 45 v l) (hlow : Below g w0 w) (hn : g ≤ b) (hlen : l.length ≤ 999) (hfit : ∀ e ∈ l, e.Fits) (hef : e.Fits)
    (hb2 : Below w.heap.size w w2) (ho' : OwnR erec w' g 45 v' (l ++ [e])) (hg : w2.grownBy w' v.ownBlock) : WL g w0 w' b B W now v' (l ++ [e]) := by
  have hsz : g ≤ w.heap.size := Nat.le_of_lt (Nat.lt_of_le_of_lt hn hw.lt)
  refine ⟨(hw.below hb2).keep ?_, ho', (hlow.trans (hb2.mono hsz)).trans (grown_low hg (Nat.le_trans hsz hb2.size) (fun j hj => ho.low j hj)), hn, by simp; omega, fun x hx => ?_⟩
  · refine hg.block b (hw.below hb2).lt (fun hbv => ?_)
    obtain ⟨cs, hcs⟩ := ho.block hbv.symm
    obtain ⟨Z, h1, _⟩ := hw.blk
    rw [h1] at hcs
    injection hcs with hcs
    injection hcs with _ hcs
    exact absurd hcs (by decide)
  · rcases List.mem_append.1 hx with hx | hx
    · exact hfit x hx
    · rw [List.mem_singleton.1 hx]; exact hef

set_option maxRecDepth 100000 in
set_option maxHeartbeats 2000000 in
theorem walk (w : World) (a0 : Option Addr) (l0 k0 : Nat) (L0 : List (List Value)) (w0 : SliceIn w [.int .u64, .int .i64] 16 a0 l0 k0 L0) (c1 : Array Value) (w1 : Flat [.int .u8, .int .u8] c1.toList) (a2 : Int) (w2 : (Lit.int .u16 a2).wf = true) :
    Calls Try.prog 5 #[.slice a0 l0 k0, .agg c1, .int .u16 a2] w fun e w' => e = .returned (.bool true) ∧ Below w.heap.size w w' := by
  obtain ⟨V, hrow, hfit, _, _⟩ := evs_in w0
  obtain ⟨x, y, rfl, hx0, hy0⟩ := w1.two
  have bx := bounds_u8 hx0
  have bY := bounds_u8 hy0
  have b2 := bounds_u16 w2
  clear w0 hx0 hy0 w1 w2
  obtain ⟨m, hm⟩ : ∃ m : Nat, x % 8 = m := ⟨(x % 8).toNat, by omega⟩
  obtain ⟨B, hB⟩ : ∃ B : Nat, 1 + (m : Int) = B := ⟨1 + m, by omega⟩
  have hB1 : 1 ≤ B := by omega
  have hB8 : B ≤ 8 := by omega
  obtain ⟨W, hW⟩ : ∃ W : Nat, 1 + y = W := ⟨(1 + y).toNat, by omega⟩
  have hW1 : 1 ≤ W := by omega
  have hWm : W ≤ 256 := by omega
  obtain ⟨more, rfl⟩ : ∃ more : Nat, a2 = more := ⟨a2.toNat, by omega⟩
  obtain ⟨g, hg⟩ : ∃ g, w.heap.size = g := ⟨_, rfl⟩
  have HG := Lib.hid hg
  have hlm := hrow.2.1
  unfold maxLen at hlm
  have HR := Lib.hid hrow
  have HF := Lib.hid hfit
  clear hrow hfit
  go_enter Try.func5, Try.ntmps5
  go_wp2_with fail
  have hba := below_alloc w (.cells #[.int .u8 x, .int .u8 y] 40)
  have k1 := heap_alloc_at w (.cells #[.int .u8 x, .int .u8 y] 40)
  rw [hg] at hba k1
  generalize w.alloc (.cells #[.int .u8 x, .int .u8 y] 40) = w1 at *
  refine (awake16_any _).mono ?_
  rintro r w3 ⟨rfl, b3⟩
  have k3 := kb_below k1 b3
  have p0 : w3.cell? ⟨g, 0, none⟩ = some (.int .u8 x) := by rw [cell_of k3]; rfl
  have p1 : w3.cell? ⟨g, 1, none⟩ = some (.int .u8 y) := by rw [cell_of k3]; rfl
  have B3 := Lib.hid (hba.trans (b3.mono (by have := hba.size; omega : g ≤ w1.heap.size)))
  have z3 : g ≤ w3.heap.size := by have := B3.out.size; omega
  clear b3 k1 hba k3
  go_wp2_with fail
  refine (new_win B W w3 hB1 hB8 hW1 (by omega)).mono ?_
  rintro r w4 ⟨rfl, hw4, b4⟩
  obtain ⟨b, hb⟩ : ∃ b, w3.heap.size = b := ⟨_, rfl⟩
  rw [hb] at hw4 b4 ⊢
  have hgb : g ≤ b := by omega
  have W4 : Hid (WL g w w4 b B W 0 (.slice none 0 0) []) := Lib.hid ⟨by rw [Nat.zero_div, ← cntE_nil]; exact hw4, OwnR.nil _ _ _, B3.out.trans (b4.mono hgb), hgb, by simp, by simp⟩
  obtain ⟨n, hn⟩ : ∃ n, min l0 200 = n := ⟨_, rfl⟩
  clear hb hw4 b4 B3 z3 p0 p1
  go_wp2_with (fail)
  go_loopg [11, 12, 13] n (fun k v11 v12 v13 wr => ∃ (i now : Nat) (l : List Ev), i + k = n ∧ v13 = .int .i64 i ∧ v12 = .int .u64 now ∧ now ≤ 1000 * i ∧ l.length ≤ i ∧ WL g w wr b B W now v11 l)
  case atStart => exact ⟨0, 0, [], by omega, rfl, rfl, by omega, by simp, W4.out⟩
  case round =>
    obtain ⟨i, now, l, hi, rfl, rfl, hnow, hll, hwl⟩ := hrel
    have HI := Lib.hid hi
    have HL := Lib.hid hll
    have HWL := Lib.hid hwl
    have hn200 : n ≤ 200 := by omega
    clear hi hll hwl W4
    by_cases hlt : i < n
    · have hlt1 : (i : Int) < l0 := by omega
      have hlt2 : (i : Int) < 200 := by omega
      obtain ⟨blk, off, e0, rfl, hz, hbw, q0, q1⟩ := HR.out.ev_at (show i < l0 by omega)
      have p0 := cell_later (HWL.out.low.mono (by omega)) q0
      have p1 := cell_later (HWL.out.low.mono (by omega)) q1
      have hef := HF.out e0 (List.mem_of_getElem? hz)
      obtain ⟨tm, kd⟩ := e0
      dsimp only at p0 p1
      obtain ⟨d, hd⟩ : ∃ d, tm % 1000 = d := ⟨_, rfl⟩
      have hd' : (tm : Int) % 1000 = (d : Int) := by omega
      have hd1 : d < 1000 := by omega
      obtain ⟨now', hnow'⟩ : ∃ now', now + d = now' := ⟨_, rfl⟩
      have hww : (now : Int) + (d : Int) = (now' : Int) := by omega
      have hn1 : now' ≤ 1000 * (i + 1) := by omega
      have hn2 : now ≤ now' := by omega
      have hkd := hef.2
      have HKD := Lib.hid hkd
      unfold wf64 at hkd
      clear hz q0 q1 hef hnow' hd
      obtain ⟨A, ln, c, rfl, _, _, _, _⟩ := HWL.out.own.row'
      by_cases hk : 0 ≤ kd ∧ kd < 5
      · obtain ⟨k, rfl⟩ : ∃ k : Nat, kd = k := ⟨kd.toNat, by omega⟩
        have hlen := HL.out
        go_wp2_with fail
        refine (add_is b B W now now' ⟨now', k⟩ k l wr HWL.out.win (by omega) hn2 HWL.out.len rfl (by omega) rfl).mono ?_
        rintro r w5 ⟨rfl, hf, hw⟩
        have p5 := (World.cell?_of_block (w := wr) (hf.block blk (by have := HWL.out.sz; omega) (by show ¬ blk = b; omega))).trans p1
        have OWN := Lib.hid (HWL.out.row_stays hf)
        have LOW := Lib.hid (HWL.out.low.trans (hf.below HWL.out.sz (fun j hj e => by omega)))
        have HW5 := Lib.hid hw
        have FIT := Lib.hid HWL.out.fit
        have OWN1 := Lib.hid (OWN.out.alloc (.cells #[.int .u64 now', .int .i64 k] 45))
        have SRC1 := Lib.hid (RowR.one (R := erec) w5 ⟨now', k⟩ 45 (cs := #[.int .u64 now', .int .i64 k]) rfl)
        have LN : Hid (l.length + 1 ≤ 1048576) := Lib.hid (by omega)
        have SZ : Hid (g ≤ (w5.alloc (.cells #[.int .u64 now', .int .i64 k] 45)).heap.size) := Lib.hid (by have := LOW.out.size; simp; omega)
        clear hf hw HWL p0 p1
        go_wp2_with (refine wpList_appS tREv rfl (.tmp 55) (.tmp 63) rfl (base := g) rfl rfl OWN1.out SRC1.out LN.out SZ.out ?_; intro v' w6 own' gr' _; have HQ := Lib.hid (WL.grown (w0 := w) (e := ⟨now', k⟩) HW5.out OWN.out LOW.out hgb (by omega) FIT.out ⟨by show now' ≤ _; omega, HKD.out⟩ (below_alloc w5 _) own' gr'); clear own' gr')
        obtain ⟨A', ln', c', rfl, _, _, _, _⟩ := HQ.out.own.row'
        have HB64 : Hid (wf64 (B : Int)) := Lib.hid (wf64_lit (by omega) (by omega))
        go_wp2_with fail
        refine (counts_is b B W now' now' (l ++ [⟨now', k⟩]) w6 HQ.out.win (by omega) (Nat.le_refl _) HQ.out.len).mono ?_
        rintro r wc ⟨rfl, hf, hw⟩
        have HC := Lib.hid (HQ.out.on hf hw)
        clear hf hw HQ
        have hlx := HC.out.own.row.1.1
        have hl9 := HC.out.len
        go_wp2_with fail
        refine (made16_any A' ln' c' (l ++ [⟨now', k⟩]) wc HC.out.own.row.1 (by omega)).mono ?_
        rintro r wm ⟨A3, c3, rfl, r3, bm⟩
        have HM := Lib.hid (HC.out.below bm)
        have R3 := Lib.hid r3
        clear bm r3 HC
        go_wp2_with fail
        refine (of_any A3 ln' c3 (l ++ [⟨now', k⟩]) now' B W wm R3.out (by omega) (by omega) HB64.out (by omega) HM.out.fit).mono ?_
        rintro r wo ⟨rfl, bo⟩
        have HO := Lib.hid (HM.out.below bo)
        have heq := fun v => eq5_yes (ofK_fits (l ++ [⟨now', k⟩]) now' B W hl9) v
        generalize (ofK (l ++ [⟨now', k⟩]) now' B W).vals = kv at *
        clear bo HM R3 hlx hl9 HB64
        go_wp2
        go_roundg (n - (i + 1))
        case measure => have := HI.out; omega
        case rel => exact ⟨i + 1, now', l ++ [⟨now', k⟩], by omega, by simp, rfl, hn1, by simp; omega, HO.out⟩
      · have hbd : kd < 0 ∨ 5 ≤ kd := by omega
        go_wp2_with fail
        refine (add_bad b now' kd 1 wr hbd).mono ?_
        rintro r wx ⟨rfl, hx⟩
        rw [hx]
        clear hx wx
        have HQ := HWL
        clear p0 p1 HWL
        have HB64 : Hid (wf64 (B : Int)) := Lib.hid (wf64_lit (by omega) (by omega))
        go_wp2_with fail
        refine (counts_is b B W now now' l wr HQ.out.win (by omega) hn2 HQ.out.len).mono ?_
        rintro r wc ⟨rfl, hf, hw⟩
        have HC := Lib.hid (HQ.out.on hf hw)
        clear hf hw HQ
        have hlx := HC.out.own.row.1.1
        have hl9 := HC.out.len
        go_wp2_with fail
        refine (made16_any A ln c l wc HC.out.own.row.1 (by omega)).mono ?_
        rintro r wm ⟨A3, c3, rfl, r3, bm⟩
        have HM := Lib.hid (HC.out.below bm)
        have R3 := Lib.hid r3
        clear bm r3 HC
        go_wp2_with fail
        refine (of_any A3 ln c3 l now' B W wm R3.out (by omega) (by omega) HB64.out (by omega) HM.out.fit).mono ?_
        rintro r wo ⟨rfl, bo⟩
        have HO := Lib.hid (HM.out.below bo)
        have heq := fun v => eq5_yes (ofK_fits l now' B W hl9) v
        generalize (ofK l now' B W).vals = kv at *
        clear bo HM R3 hlx hl9 HB64
        go_wp2
        go_roundg (n - (i + 1))
        case measure => have := HI.out; omega
        case rel => exact ⟨i + 1, now', l, by omega, by simp, rfl, hn1, by have := HL.out; omega, HO.out⟩
    · obtain ⟨now', hnow'⟩ : ∃ now', now + more = now' := ⟨_, rfl⟩
      have hww : (now : Int) + (more : Int) = (now' : Int) := by omega
      have hn2 : now ≤ now' := by omega
      have hn3 : now' ≤ 300000 := by have := HI.out; omega
      obtain ⟨A, ln, c, rfl, _, _, _, _⟩ := HWL.out.own.row'
      have HQ := HWL
      have HCS : Hid ((i : Int) < l0 ∧ ¬ (i : Int) < 200 ∨ ¬ (i : Int) < l0) := Lib.hid (by omega)
      clear HWL hnow' hlt
      rcases HCS.out with ⟨h1, h2⟩ | h1
      all_goals
        have HB64 : Hid (wf64 (B : Int)) := Lib.hid (wf64_lit (by omega) (by omega))
        go_wp2_with fail
        refine (counts_is b B W now now' l wr HQ.out.win (by omega) hn2 HQ.out.len).mono ?_
        rintro r wc ⟨rfl, hf, hw⟩
        have HC := Lib.hid (HQ.out.on hf hw)
        clear hf hw HQ
        have hlx := HC.out.own.row.1.1
        have hl9 := HC.out.len
        go_wp2_with fail
        refine (made16_any A ln c l wc HC.out.own.row.1 (by omega)).mono ?_
        rintro r wm ⟨A3, c3, rfl, r3, bm⟩
        have HM := Lib.hid (HC.out.below bm)
        have R3 := Lib.hid r3
        clear bm r3 HC
        go_wp2_with fail
        refine (of_any A3 ln c3 l now' B W wm R3.out (by omega) (by omega) HB64.out (by omega) HM.out.fit).mono ?_
        rintro r wo ⟨rfl, bo⟩
        have HO := Lib.hid (HM.out.below bo)
        have heq := fun v => eq5_yes (ofK_fits l now' B W hl9) v
        generalize (ofK l now' B W).vals = kv at *
        clear bo HM R3 hlx hl9 HB64
        go_wp2
        go_ret
        refine ⟨rfl, ?_⟩
        try rw [HG.out]
        exact HO.out.low

set_option maxRecDepth 100000 in
theorem lifted (os : Os) (started : os.Started) (H : Type) (enc : TypeId × Value → H) :
    ReturnsInHanded {} Try.checked os 5 .any (Rows.healthWindowSpec.pre6 enc Try.prog Try.f5 Rows.healthWindowRow.domain false) (Rows.healthWindowSpec.post enc Try.prog Try.f5 false true false false) := by
  refine returnsInHanded_of_change_sized (C := Try.checked) own started (by kernel_rfl) Try.func5
    (ChangeSpec.witness6 (enc := enc) (C := Try.checked) false ⟨#[], #[.slice none 0 0, .agg #[.int .u8 0, .int .u8 0], .int .u16 0], []⟩ 8 (by kernel_rfl) (by kernel_rfl) (by kernel_rfl) (by kernel_rfl)) ?_
  intro W base args ds gs before hval0 hW hcnd hsz0 _
  have hval : ∀ (j : Nat) t v, Try.f5.params[j]? = some t → args[j]? = some v → Value.okWide Try.prog W .any base t v := hval0
  have hsz : (DataW.weightsEach Try.prog (Try.f5.params.toList ++ Rows.healthWindowSpec.plain.varTypes Try.prog) (ds ++ gs)).all (· ≤ reachBytes) = true := hsz0
  have hW' := hW
  obtain ⟨p, q, hA0, hV, rfl, hfz, hnd⟩ := hW
  have hA : DataW.TrodAll enc Try.prog W 0 (fun _ => true) true Try.f5.params.toList args.toList ds p := hA0
  rw [Try.params5] at hA hval hsz
  have hAk := hA
  obtain ⟨v0, vs0, d0, ds0, p0, q0, hargs, rfl, rfl, h0, r0⟩ := trodAll_cons hA
  obtain ⟨v1, vs1, d1, ds1, p1, q1, rfl, rfl, rfl, h1, r1⟩ := trodAll_cons r0
  obtain ⟨v2, vs2, d2, ds2, p2, q2, rfl, rfl, rfl, h2, r2⟩ := trodAll_cons r1
  obtain ⟨rfl, rfl, rfl⟩ := trodAll_nil r2
  obtain rfl : args = #[v0, v1, v2] := by cases args; simp_all
  obtain ⟨rfl, rfl⟩ := trodVars_none hV
  obtain ⟨a0, l0, k0, L0, rfl, w0⟩ := open_slice_flat (ks := [.int .u64, .int .i64]) (bytes := 16) 8 Try.underlying32 (by kernel_rfl) (by kernel_rfl) (by decide) (by kernel_rfl) (hval 0 32 v0 rfl rfl) h0 (fun elems rest hd => by subst hd; exact sized_slice hsz (j := 0) (t := 32) (e := 45) rfl rfl Try.underlying32)
  obtain ⟨c1, rfl, w1⟩ := open_flat (ks := [.int .u8, .int .u8]) 8 (by kernel_rfl) (by kernel_rfl) (hval 1 40 v1 rfl rfl) h1
  obtain ⟨a2, rfl, rfl, rfl, w2⟩ := open_int Try.underlying41 (hval 2 41 v2 rfl rfl) h2
  clear hA0 hval0 hsz0
  refine (walk W a0 l0 k0 L0 w0 c1 w1 a2 w2).mono fun e W' ⟨he, bel⟩ => ?_
  subst he
  exact ⟨_, rfl, _, _, _, [], _, [], hW', trodAll_mk1 (shut_bool Try.underlying4 _), trodAll_below laidOut bel _ _ _ _ (by kernel_rfl) hAk, rfl, bel.frame _, fun h => by cases h⟩

theorem over : Rows.healthWindowRow.holds Try.pinned (OpenSpec.ofChange Rows.healthWindowSpec) :=
  OpenClaim.holds_of_wide 5 Try.f5 rfl rfl rfl rfl rfl rfl rfl ⟨rfl, rfl, rfl, rfl, rfl⟩ rfl rfl rfl rfl rfl (by kernel_rfl) Try.func5 (by kernel_rfl)
    (of_decide_eq_true (by kernel_rfl)) (by unfold Func.isWrapper; first | (rw [if_pos (by decide +kernel)]; kernel_rfl) | (rw [if_neg (by decide +kernel)]; exact ⟨rfl, rfl⟩))
    (fun os started H enc _ => lifted os started H enc)

theorem proved : Rows.HealthWindowSaid := over
#print axioms proved
end Go.Proofs.Ytfncipoiblieeaa.healthWindow
