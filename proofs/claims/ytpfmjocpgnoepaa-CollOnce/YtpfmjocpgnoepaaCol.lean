/- Contracts of package coll: New, Open, shut, Expire. -/
import Derived.Test.YtpfmjocpgnoepaaBatAdd
import Derived.Test.YtpfmjocpgnoepaaSatAdd
import Derived.Test.YtpfmjocpgnoepaaLater
namespace Go.Proofs.Ytpfmjocpgnoepaa
set_option linter.unusedVariables false
open Go.ChangeShapes Go.WideShapes Go.ChangeAt Go.RowKit

/-- A window: how long, how many arguments at most, who came, when it ends. -/
structure CO where
  win : Int
  most : Int
  zs : List Int
  ms : List P2
  due : Int
def CO.opn (S : CO) : Bool := !S.ms.isEmpty
def CO.zs1 (S : CO) (x : Int) : List Int := if S.opn then addA S.zs x S.most else [x]
def CO.ms1 (S : CO) (id x : Int) : List P2 := if S.opn then addM S.zs S.ms id x S.most else [⟨id, 0⟩]
def CO.due1 (S : CO) (now : Int) : Int := if S.opn then S.due else addS now S.win
def CO.full1 (S : CO) (x : Int) : Bool := decide (S.most ≤ ((S.zs1 x).length : Int))
def CO.shut (S : CO) : CO := ⟨S.win, S.most, [], [], 0⟩
def CO.more (S : CO) (now id x : Int) : CO := ⟨S.win, S.most, S.zs1 x, S.ms1 id x, S.due1 now⟩
def CO.next (S : CO) (now id x : Int) : CO := if S.full1 x then S.shut else S.more now id x
def CO.exp (S : CO) (now : Int) : Bool := S.opn && decide (S.due ≤ now)
def CO.wait (S : CO) (now : Int) : CO := if S.exp now then S.shut else S
/-- What a command does to a window. -/
structure ST where
  o : Bool
  r : Bool
  due : Int
  zs : List Int
  ms : List P2
def CO.step (S : CO) (now id x : Int) : ST := ⟨!S.opn, S.full1 x, if S.opn then 0 else addS now S.win, if S.full1 x then S.zs1 x else [], if S.full1 x then S.ms1 id x else []⟩

/-- The block of a window. -/
abbrev cvals (W T : Int) (A : Option Addr) (n c : Nat) (M : Option Addr) (m d : Nat) (E : Int) : List Value := [.int .u64 W, .int .i64 T, .slice A n c, .slice M m d, .int .u64 E]
abbrev cobj (W T : Int) (A : Option Addr) (n c : Nat) (M : Option Addr) (m d : Nat) (E : Int) : Obj := vobj 118 (cvals W T A n c M m d E)
structure ColAt (w : World) (b : Nat) (S : CO) (A : Option Addr) (n c : Nat) (M : Option Addr) (m d : Nat) : Prop where
  blk : w.heap[b]? = some (cobj S.win S.most A n c M m d S.due)
  bat : Bat w A n c M m d S.zs S.ms
  frA : Fresh (b + 1) A
  frM : Fresh (b + 1) M
def Col (w : World) (b : Nat) (S : CO) : Prop := ∃ A n c M m d, ColAt w b S A n c M m d
theorem fresh_ne {b : Nat} {A : Option Addr} (h : Fresh (b + 1) A) {b' off : Nat} (e : A = some ⟨b', off, none⟩) : ¬ b' = b := fun e' => by have := h b' off e; omega
theorem Bat.apart {w w' : World} {A M : Option Addr} {n c m d b : Nat} {zs : List Int} {ms : List P2} (h : Bat w A n c M m d zs ms) (hA : Fresh (b + 1) A) (hM : Fresh (b + 1) M) (hf : Frm (· = b) w w') : Bat w' A n c M m d zs ms :=
  ⟨h.ar.apart hf (fun _ _ e _ => fresh_ne hA e), h.mr.apart hf (fun _ _ e _ => fresh_ne hM e), h.nc, h.md, h.fits⟩
theorem Bat.nil (w : World) (c d : Nat) : Bat w none 0 c none 0 d [] [] :=
  ⟨⟨rfl, Nat.zero_le _, .inl rfl⟩, ⟨rfl, Nat.zero_le _, .inl rfl⟩, Nat.zero_le _, Nat.zero_le _, by simp⟩
section
variable {w w' : World} {b n c m d : Nat} {S : CO} {A M : Option Addr}
theorem ColAt.below (h : ColAt w b S A n c M m d) (hb : Below w.heap.size w w') : ColAt w' b S A n c M m d := ⟨kb_below h.blk hb, h.bat.below hb, h.frA, h.frM⟩
theorem ColAt.lt (h : ColAt w b S A n c M m d) : b < w.heap.size := heap_lt h.blk
theorem ColAt.opn (h : ColAt w b S A n c M m d) : S.opn = decide (0 < m) := by
  have := h.bat.mlen
  unfold CO.opn
  rw [← this]
  cases S.ms <;> simp
theorem ColAt.cells (h : ColAt w b S A n c M m d) : w.cell? ⟨b, 0, none⟩ = some (.int .u64 S.win) ∧ w.cell? ⟨b, 1, none⟩ = some (.int .i64 S.most) ∧ w.cell? ⟨b, 2, none⟩ = some (.slice A n c) ∧ w.cell? ⟨b, 3, none⟩ = some (.slice M m d) ∧ w.cell? ⟨b, 4, none⟩ = some (.int .u64 S.due) :=
  ⟨vobj_cell h.blk rfl, vobj_cell h.blk rfl, vobj_cell h.blk rfl, vobj_cell h.blk rfl, vobj_cell h.blk rfl⟩
theorem Col.below (h : Col w b S) (hb : Below w.heap.size w w') : Col w' b S := by
  obtain ⟨A, n, c, M, m, d, h⟩ := h
  exact ⟨A, n, c, M, m, d, h.below hb⟩
end

set_option maxHeartbeats 1000000 in
theorem open_at (b : Nat) (S : CO) (A : Option Addr) (n c : Nat) (M : Option Addr) (m d : Nat) (w : World) (h : ColAt w b S A n c M m d) :
    Calls Try.prog 51 #[.pointer (some ⟨b, 0, none⟩)] w fun r w' => r = .returned (.bool (decide (0 < m))) ∧ w = w' := by
  obtain ⟨_, _, _, c3, _⟩ := h.cells
  clear h
  go_enter Try.func51, Try.ntmps51
  go_wp2
  go_ret
  exact ⟨rfl, rfl⟩
set_option maxHeartbeats 1000000 in
theorem open_nil (w : World) : Calls Try.prog 51 #[.pointer none] w fun r w' => r = .returned (.bool false) ∧ w = w' := by
  go_enter Try.func51, Try.ntmps51
  go_wp2
  go_ret
  exact ⟨rfl, rfl⟩
theorem open_col (b : Nat) (S : CO) (w : World) (h : Col w b S) : Calls Try.prog 51 #[.pointer (some ⟨b, 0, none⟩)] w fun r w' => r = .returned (.bool S.opn) ∧ w = w' := by
  obtain ⟨A, n, c, M, m, d, h⟩ := h
  rw [h.opn]
  exact open_at b S A n c M m d w h

theorem sizeO : (Try.prog.info? 116).map (·.size) = some 3 := by kernel_rfl
theorem onesO : Ones [.slice none 0 0, .slice none 0 0, .int .u64 0] := by intro v hv; simp at hv; rcases hv with rfl | rfl <;> rfl
set_option maxRecDepth 100000 in
set_option maxHeartbeats 1000000 in
theorem shut_at (b : Nat) (S : CO) (A : Option Addr) (n c : Nat) (M : Option Addr) (m d : Nat) (w : World) (h : ColAt w b S A n c M m d) :
    Calls Try.prog 62 #[.pointer (some ⟨b, 0, none⟩)] w fun r w' => r = .returned (batV A n c M m d) ∧ ColAt w' b S.shut none 0 0 none 0 0 ∧ Bat w' A n c M m d S.zs S.ms ∧ Frm (· = b) w w' := by
  obtain ⟨W, hW, hbW, k0, k1, hszW⟩ := two_new w (bobj 34 none 0 0 none 0 0) (bobj 34 A n c M m d)
  have c23 : (w.alloc (bobj 34 none 0 0 none 0 0)).cell? ⟨b, 2, none⟩ = some (.slice A n c) ∧ (w.alloc (bobj 34 none 0 0 none 0 0)).cell? ⟨b, 3, none⟩ = some (.slice M m d) :=
    ⟨cell_alloc h.cells.2.2.1 _, cell_alloc h.cells.2.2.2.1 _⟩
  obtain ⟨c2, c3⟩ := c23
  have HW := Lib.hid hW
  have BW := Lib.hid hbW
  have K0 := Lib.hid k0
  have K1 := Lib.hid k1
  have H := Lib.hid (h.below hbW)
  have HL := Lib.hid h.lt
  have HB := Lib.hid h.bat
  have HF := Lib.hid h.frA
  have HG := Lib.hid h.frM
  clear h hW hbW k0 k1 hszW
  go_enter Try.func62, Try.ntmps62
  go_wp2_with (first
    | (rw [HW.out]; clear c2 c3; refine wpList_store_part rfl 116 _ _ rfl b 2 118 (cvals S.win S.most A n c M m d S.due) [.slice none 0 0, .slice none 0 0, .int .u64 0] rfl rfl ?hz (Nat.le_refl _) sizeO onesO ?_; (case hz => exact H.out.blk); intro w4 k4 f4 _;
       have K4 := Lib.hid k4; have F4 := Lib.hid f4; have k1' := (f4.block _ (heap_lt K1.out) (by have := HL.out; omega)).trans K1.out; obtain ⟨y0, y1⟩ := bobj_cells k1'; have k0' := (f4.block _ (heap_lt K0.out) (by have := HL.out; omega)).trans K0.out; have K0' := Lib.hid k0'; clear k4 f4 k1' k0')
    | (refine wpList_store_agg rfl 34 _ _ rfl w.heap.size [.slice none 0 0, .slice none 0 0] [.slice A n c, .slice M m d] rfl rfl ?hz rfl sizeB (onesB _ _ _ _ _ _) ?_; (case hz => exact K0'.out); intro w5 k5 f5 _;
       have K5 := Lib.hid k5; have F5 := Lib.hid f5; clear k5 f5))
  refine bodyPost_ret (v := batV A n c M m d) (results_agg Try.results62 rfl (loadB K5.out)) rfl ?_
  have hb := BW.out.size
  have hlt := HL.out
  have hl4 := heap_lt K4.out
  have f5 : Frm (fun j => w.heap.size ≤ j) w4 w5 := F5.out.mono (fun j _ e => by rw [e]; exact Nat.le_refl _)
  have FF : Frm (· = b) w w5 := by
    have h1 : Frm (· = b) w w4 := (Frm.of_below (F := (· = b)) BW.out).trans F4.out (fun _ _ e => e)
    exact h1.trans F5.out (fun j hj e => by omega)
  have f45 : Frm (· = w.heap.size) w4 w5 := F5.out
  have hbat : Bat w A n c M m d S.zs S.ms := HB.out
  exact ⟨rfl, ⟨(F5.out.block b hl4 (by omega)).trans K4.out, Bat.nil _ _ _, Fresh.none _, Fresh.none _⟩, hbat.apart HF.out HG.out FF, FF⟩

def newOk (W T : Int) : Bool := decide (1 ≤ W ∧ W ≤ 1099511627776 ∧ 1 ≤ T ∧ T ≤ 4)
set_option maxRecDepth 100000 in
set_option maxHeartbeats 1000000 in
theorem new_at (W T : Int) (w : World) (hW : 0 ≤ W) (h : newOk W T = true) :
    Calls Try.prog 43 #[.int .u64 W, .int .i64 T] w fun r w' => r = .returned (.pointer (some ⟨w.heap.size, 0, none⟩)) ∧ ColAt w' w.heap.size ⟨W, T, [], [], 0⟩ none 0 0 none 0 0 ∧ Below w.heap.size w w' := by
  obtain ⟨h1, h2, h3, h4⟩ := of_decide_eq_true h
  have e1 : (W == 0) = false := by simp; omega
  have e2 : ¬ (1099511627776 : Int) < W := by omega
  have e3 : ¬ T < (1 : Int) := by omega
  have e4 : ¬ (4 : Int) < T := by omega
  clear h h1 h2 h3 h4
  go_enter Try.func43, Try.ntmps43
  go_wp2
  go_ret
  exact ⟨rfl, ⟨heap_alloc_at w (cobj W T none 0 0 none 0 0 0), Bat.nil _ _ _, Fresh.none _, Fresh.none _⟩, below_alloc w (cobj W T none 0 0 none 0 0 0)⟩
theorem new_col (W T : Int) (w : World) (hW : 0 ≤ W) (h : newOk W T = true) :
    Calls Try.prog 43 #[.int .u64 W, .int .i64 T] w fun r w' => r = .returned (.pointer (some ⟨w.heap.size, 0, none⟩)) ∧ Col w' w.heap.size ⟨W, T, [], [], 0⟩ ∧ Below w.heap.size w w' := by
  refine (new_at W T w hW h).mono ?_
  rintro r w' ⟨rfl, hc, hb⟩
  exact ⟨rfl, ⟨_, _, _, _, _, _, hc⟩, hb⟩
set_option maxHeartbeats 1000000 in
theorem new_none (W T : Int) (w : World) (hW : 0 ≤ W) (h : newOk W T = false) :
    Calls Try.prog 43 #[.int .u64 W, .int .i64 T] w fun r w' => r = .returned (.pointer none) ∧ w = w' := by
  have h' := of_decide_eq_false h
  clear h
  by_cases h1 : W = 0
  · have e1 : (W == 0) = true := by simp [h1]
    clear h' h1
    go_enter Try.func43, Try.ntmps43
    go_wp2
    go_ret
    exact ⟨rfl, rfl⟩
  · have e1 : (W == 0) = false := by simp [h1]
    by_cases h2 : (1099511627776 : Int) < W
    · clear h' h1
      go_enter Try.func43, Try.ntmps43
      go_wp2
      go_ret
      exact ⟨rfl, rfl⟩
    · by_cases h3 : T < (1 : Int)
      · clear h' h1
        go_enter Try.func43, Try.ntmps43
        go_wp2
        go_ret
        exact ⟨rfl, rfl⟩
      · have h4 : (4 : Int) < T := by omega
        clear h' h1
        go_enter Try.func43, Try.ntmps43
        go_wp2
        go_ret
        exact ⟨rfl, rfl⟩

set_option maxRecDepth 100000 in
set_option maxHeartbeats 1000000 in
theorem expire_not (b : Nat) (S : CO) (A : Option Addr) (n c : Nat) (M : Option Addr) (m d : Nat) (now : Int) (w : World) (h : ColAt w b S A n c M m d) (hx : S.exp now = false) :
    Calls Try.prog 49 #[.pointer (some ⟨b, 0, none⟩), .int .u64 now] w fun r w' => r = .returned (.tuple #[batV none 0 0 none 0 0, .bool false]) ∧ Below w.heap.size w w' := by
  have hO := open_at b S A n c M m d _ (h.below (below_alloc w (bobj 34 none 0 0 none 0 0)))
  obtain ⟨_, _, _, c3, c4⟩ := (h.below (below_alloc w (bobj 34 none 0 0 none 0 0))).cells
  have K0 := Lib.hid (heap_alloc_at w (bobj 34 none 0 0 none 0 0))
  have HO := Lib.hid hO
  have LW := Lib.hid (below_alloc w (bobj 34 none 0 0 none 0 0))
  unfold CO.exp at hx
  rw [h.opn] at hx
  have hc : decide (0 < m) = false ∨ (decide (0 < m) = true ∧ now < S.due) := by
    by_cases hm : 0 < m
    · rw [decide_eq_true hm, Bool.true_and] at hx
      exact .inr ⟨decide_eq_true hm, by have := of_decide_eq_false hx; omega⟩
    · exact .inl (decide_eq_false hm)
  clear h hx hO
  rcases hc with hm | ⟨hm, hn⟩
  all_goals
    go_enter Try.func49, Try.ntmps49
    go_wp2_with (first
      | (refine HO.out.mono ?_; rw [hm]; rintro r wz ⟨rfl, hz⟩; rw [← hz]; clear hz wz HO)
      | (refine wpList_store_agg rfl 34 _ _ rfl w.heap.size [.slice none 0 0, .slice none 0 0] [.slice none 0 0, .slice none 0 0] rfl rfl ?hz rfl sizeB (onesB _ _ _ _ _ _) ?_; (case hz => exact K0.out); intro w5 k5 f5 _;
         have K5 := Lib.hid k5; have F5 := Lib.hid f5; clear k5 f5))
    refine bodyPost_ret (v := .tuple #[batV none 0 0 none 0 0, .bool false]) (results_agg1 Try.results49 rfl (loadB K5.out) rfl) rfl ?_
    exact ⟨rfl, LW.out.trans (F5.out.below LW.out.size (fun j hj e => by omega))⟩

set_option maxRecDepth 100000 in
set_option maxHeartbeats 1000000 in
theorem expire_yes (b : Nat) (S : CO) (A : Option Addr) (n c : Nat) (M : Option Addr) (m d : Nat) (now : Int) (w : World) (h : ColAt w b S A n c M m d) (hx : S.exp now = true) :
    Calls Try.prog 49 #[.pointer (some ⟨b, 0, none⟩), .int .u64 now] w fun r w' => r = .returned (.tuple #[batV A n c M m d, .bool true]) ∧ ColAt w' b S.shut none 0 0 none 0 0 ∧ Bat w' A n c M m d S.zs S.ms ∧ Frm (· = b) w w' := by
  have h' := h.below (below_alloc w (bobj 34 none 0 0 none 0 0))
  have hO := open_at b S A n c M m d _ h'
  have hS := shut_at b S A n c M m d _ h'
  obtain ⟨_, _, _, c3, c4⟩ := h'.cells
  have K0 := Lib.hid (heap_alloc_at w (bobj 34 none 0 0 none 0 0))
  have HO := Lib.hid hO
  have HS := Lib.hid hS
  have HF := Lib.hid h.frA
  have HG := Lib.hid h.frM
  have HL := Lib.hid h.lt
  have LW := Lib.hid (below_alloc w (bobj 34 none 0 0 none 0 0))
  have hsz : Hid ((w.alloc (bobj 34 none 0 0 none 0 0)).heap.size = w.heap.size + 1) := Lib.hid (by simp)
  unfold CO.exp at hx
  rw [h.opn, Bool.and_eq_true] at hx
  obtain ⟨hm, hx⟩ := hx
  have hn : ¬ now < S.due := by have := of_decide_eq_true hx; omega
  clear h h' hx hO hS
  go_enter Try.func49, Try.ntmps49
  go_wp2_with (first
    | (go_at_call 51; refine HO.out.mono ?_; rw [hm]; rintro r wz ⟨rfl, hz⟩; rw [← hz]; clear hz wz HO)
    | (go_at_call 62; refine HS.out.mono ?_; rintro r w4 ⟨rfl, k4, b4, f4⟩; clear HS c3 c4; have K4 := Lib.hid k4; have B4 := Lib.hid b4; have F4 := Lib.hid f4; have k0' := (f4.block _ (heap_lt K0.out) (by have := HL.out; omega)).trans K0.out; have K0' := Lib.hid k0'; clear k4 b4 f4 k0')
    | (refine wpList_store_agg rfl 34 _ _ rfl w.heap.size [.slice none 0 0, .slice none 0 0] [.slice A n c, .slice M m d] rfl rfl ?hz rfl sizeB (onesB _ _ _ _ _ _) ?_; (case hz => exact K0'.out); intro w5 k5 f5 _;
       have K5 := Lib.hid k5; have F5 := Lib.hid f5; clear k5 f5))
  refine bodyPost_ret (v := .tuple #[batV A n c M m d, .bool true]) (results_agg1 Try.results49 rfl (loadB K5.out) rfl) rfl ?_
  have hlt := HL.out
  have h4 : Frm (· = b) w w4 := (Frm.of_below (F := (· = b)) LW.out).trans F4.out (fun _ _ e => e)
  have f5 : Frm (· = b) w w5 := h4.trans F5.out (fun j hj e => by omega)
  have hl4 := heap_lt K4.out.blk
  exact ⟨rfl, ⟨(F5.out.block b hl4 (by omega)).trans K4.out.blk, Bat.nil _ _ _, Fresh.none _, Fresh.none _⟩, B4.out.stay F5.out K0'.out, f5⟩
theorem expire_col (b : Nat) (S : CO) (now : Int) (w : World) (h : Col w b S) :
    Calls Try.prog 49 #[.pointer (some ⟨b, 0, none⟩), .int .u64 now] w fun r w' => ∃ A n c M m d, r = .returned (.tuple #[batV A n c M m d, .bool (S.exp now)]) ∧ Col w' b (S.wait now) ∧ Bat w' A n c M m d (if S.exp now then S.zs else []) (if S.exp now then S.ms else []) ∧ (Fresh (b + 1) A ∧ Fresh (b + 1) M) ∧ Frm (· = b) w w' := by
  obtain ⟨A, n, c, M, m, d, h⟩ := h
  unfold CO.wait
  cases hx : S.exp now with
  | false =>
    refine (expire_not b S A n c M m d now w h hx).mono ?_
    rintro r w' ⟨rfl, hl⟩
    exact ⟨none, 0, 0, none, 0, 0, rfl, ⟨A, n, c, M, m, d, h.below hl⟩, Bat.nil _ _ _, ⟨Fresh.none _, Fresh.none _⟩, Frm.of_below hl⟩
  | true =>
    refine (expire_yes b S A n c M m d now w h hx).mono ?_
    rintro r w' ⟨rfl, hc, hb, hf⟩
    exact ⟨A, n, c, M, m, d, rfl, ⟨_, _, _, _, _, _, hc⟩, hb, ⟨h.frA, h.frM⟩, hf⟩
set_option maxRecDepth 100000 in
set_option maxHeartbeats 1000000 in
theorem expire_nil (now : Int) (w : World) :
    Calls Try.prog 49 #[.pointer none, .int .u64 now] w fun r w' => r = .returned (.tuple #[batV none 0 0 none 0 0, .bool false]) ∧ Below w.heap.size w w' := by
  have HO := Lib.hid (open_nil (w.alloc (bobj 34 none 0 0 none 0 0)))
  have K0 := Lib.hid (heap_alloc_at w (bobj 34 none 0 0 none 0 0))
  have LW := Lib.hid (below_alloc w (bobj 34 none 0 0 none 0 0))
  go_enter Try.func49, Try.ntmps49
  go_wp2_with (first
    | (refine HO.out.mono ?_; rintro r wz ⟨rfl, hz⟩; rw [← hz]; clear hz wz HO)
    | (refine wpList_store_agg rfl 34 _ _ rfl w.heap.size [.slice none 0 0, .slice none 0 0] [.slice none 0 0, .slice none 0 0] rfl rfl ?hz rfl sizeB (onesB _ _ _ _ _ _) ?_; (case hz => exact K0.out); intro w5 k5 f5 _;
       have K5 := Lib.hid k5; have F5 := Lib.hid f5; clear k5 f5))
  refine bodyPost_ret (v := .tuple #[batV none 0 0 none 0 0, .bool false]) (results_agg1 Try.results49 rfl (loadB K5.out) rfl) rfl ?_
  exact ⟨rfl, LW.out.trans (F5.out.below LW.out.size (fun j hj e => by omega))⟩
end Go.Proofs.Ytpfmjocpgnoepaa
