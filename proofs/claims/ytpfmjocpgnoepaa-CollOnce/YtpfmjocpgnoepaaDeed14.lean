/- Layer 14: deeds that came in; a step that was told, put into a variable. -/
import Derived.Test.YtpfmjocpgnoepaaLaw14
namespace Go.Proofs.Ytpfmjocpgnoepaa
set_option linter.unusedVariables false
open Go.ChangeShapes Go.WideShapes Go.ChangeAt Go.RowKit

/-- A deed: its kind, an id, an argument, how much later. -/
structure D4 where
  k : Int
  i : Int
  x : Int
  t : Int
def D4.Fits (d : D4) : Prop := wf64 d.k ∧ wf64 d.i ∧ wf64 d.x ∧ 0 ≤ d.t ∧ d.t ≤ 18446744073709551615
def drec : Rec D4 := ⟨fun d => [.int .i64 d.k, .int .i64 d.i, .int .i64 d.x, .int .u64 d.t], 4, by decide, fun _ => rfl, fun a u hu => by simp at hu; rcases hu with rfl | rfl | rfl | rfl <;> rfl⟩
section
variable {w w' : World} {A : Option Addr} {n : Nat}
theorem RowR.deed_at {V : List D4} (h : RowR drec w A n V) {i : Nat} (hi : i < n) : ∃ b off d, A = some ⟨b, off, none⟩ ∧ V[i]? = some d ∧ b < w.heap.size ∧ w.cell? ⟨b, off + i * 4, none⟩ = some (.int .i64 d.k) ∧ w.cell? ⟨b, off + i * 4 + 1, none⟩ = some (.int .i64 d.i) ∧ w.cell? ⟨b, off + i * 4 + 2, none⟩ = some (.int .i64 d.x) ∧ w.cell? ⟨b, off + i * 4 + 3, none⟩ = some (.int .u64 d.t) := by
  obtain ⟨b, off, a, hA, hV, hlt, hc⟩ := h.at_ hi
  exact ⟨b, off, a, hA, hV, hlt, hc 0 _ rfl, hc 1 _ rfl, hc 2 _ rfl, hc 3 _ rfl⟩
theorem deeds_in {bytes : Nat} {a : Option Addr} {l k : Nat} {D : List (List Value)} (h : SliceIn w [.int .i64, .int .i64, .int .i64, .int .u64] bytes a l k D) : ∃ V : List D4, RowR drec w a l V ∧ (∀ x ∈ V, x.Fits) ∧ l ≤ k ∧ k ≤ maxLen := by
  refine rows_in (R := drec) (Ft := D4.Fits) rfl (fun vs hv => ?_) h
  obtain _ | ⟨v0, vs⟩ := vs
  · exact hv.elim
  obtain ⟨⟨a, rfl, ha⟩, hv⟩ := hv
  obtain _ | ⟨v1, vs⟩ := vs
  · exact hv.elim
  obtain ⟨⟨b, rfl, hb⟩, hv⟩ := hv
  obtain _ | ⟨v2, vs⟩ := vs
  · exact hv.elim
  obtain ⟨⟨c, rfl, hc⟩, hv⟩ := hv
  obtain _ | ⟨v3, vs⟩ := vs
  · exact hv.elim
  obtain ⟨⟨d, rfl, hd⟩, hv⟩ := hv
  obtain _ | ⟨v4, vs⟩ := vs
  · exact ⟨⟨a, b, c, d⟩, rfl, bounds_i64 ha, bounds_i64 hb, bounds_i64 hc, (bounds_u64 hd).1, (bounds_u64 hd).2⟩
  · exact hv.elim
end
/-- A step that was told, in a new variable; the window as it is then. -/
structure Told (u wq : World) (b g : Nat) (S' : CO) (s : ST) (A : Option Addr) (n c : Nat) (M : Option Addr) (m d : Nat) : Prop where
  blk : wq.heap[g]? = some (sobj s.o s.r s.due A n c M m d)
  bat : Bat wq A n c M m d s.zs s.ms
  frA : Fresh u.heap.size A
  frM : Fresh u.heap.size M
  col : ColF wq b S' u.heap.size
  frm : Frm (· = b) u wq
  lt : u.heap.size ≤ g
theorem Col.aside {w w' : World} {b g : Nat} {S : CO} {o r : Bool} {E : Int} {A' M' : Option Addr} {n' c' m' d' : Nat} (h : Col w b S) (hf : Frm (· = g) w w') (hb : b ≠ g) (hg : w.heap[g]? = some (sobj o r E A' n' c' M' m' d')) : Col w' b S := by
  obtain ⟨A, n, c, M, m, d, h⟩ := h
  exact ⟨A, n, c, M, m, d, h.aside hf hb hg⟩
/-- Add, by the plain step. -/
theorem add_told (b : Nat) (S : CO) (now id x : Int) (w : World) (h : Col w b S) (hid : wf64 id) (hn : S.zs.length ≤ 1000) (hm : S.ms.length ≤ 1000) (hw0 : 0 ≤ S.win) (hw1 : S.win ≤ 18446744073709551615) (ht0 : 0 ≤ now) (ht1 : now ≤ 18446744073709551615) :
    Calls Try.prog 46 #[.pointer (some ⟨b, 0, none⟩), .int .u64 now, .int .i64 id, .int .i64 x] w fun r w' => ∃ A n c M m d, r = .returned (stepV (S.step now id x).o (S.step now id x).r (S.step now id x).due A n c M m d) ∧ ColF w' b (S.next now id x) w.heap.size ∧ Bat w' A n c M m d (S.step now id x).zs (S.step now id x).ms ∧ Fresh w.heap.size A ∧ Fresh w.heap.size M ∧ Frm (· = b) w w' := by
  refine (add_colF b S now id x w h hid hn hm hw0 hw1 ht0 ht1).mono ?_
  rintro r w' ⟨A, n, c, M, m, d, rfl, hc, hb, ⟨h1, h2⟩, hf⟩
  exact ⟨A, n, c, M, m, d, rfl, hc, hb, h1, h2, hf⟩
/-- The step, stored into its variable. -/
theorem told_put {u w6 w7 : World} {b g : Nat} {S' : CO} {s : ST} {A : Option Addr} {n c : Nat} {M : Option Addr} {m d : Nat} (h : ColF w6 b S' u.heap.size) (hb : Bat w6 A n c M m d s.zs s.ms) (hA : Fresh u.heap.size A) (hM : Fresh u.heap.size M) (hf : Frm (· = b) u w6)
    (k6 : w6.heap[g]? = some (sobj false false 0 none 0 0 none 0 0)) (hg : u.heap.size ≤ g) (hbg : b ≠ g) (k7 : w7.heap[g]? = some (sobj s.o s.r s.due A n c M m d)) (f7 : Frm (· = g) w6 w7) : Told u w7 b g S' s A n c M m d :=
  ⟨k7, hb.aside f7 k6 (noneS _ _ _ _ _ _ _ _ _), hA, hM, h.aside f7 hbg k6, hf.trans f7 (fun j hj e => by omega), hg⟩
theorem Told.from {u v wq : World} {b g : Nat} {S' : CO} {s : ST} {A : Option Addr} {n c : Nat} {M : Option Addr} {m d : Nat} (h : Told v wq b g S' s A n c M m d) (f : Frm (· = b) u v) : Told u wq b g S' s A n c M m d :=
  ⟨h.blk, h.bat, h.frA.mono f.size, h.frM.mono f.size, h.col.mono f.size, f.trans h.frm (fun _ _ e => e), Nat.le_trans f.size h.lt⟩
/-- How far a loop over at most a hundred goes. -/
theorem cap14 (l : Nat) : ∃ n, n ≤ l ∧ n ≤ 100 ∧ (n < 100 → n = l) := ⟨if 100 < l then 100 else l, by split <;> omega, by split <;> omega, by split <;> omega⟩
/-- A row that came in, when only a window (made since) has turned. -/
theorem row_stays {α : Type} {R : Rec α} {w wr wx : World} {A : Option Addr} {n b : Nat} {V : List α} (h : RowR R w A n V) (hl : Below w.heap.size w wr) (hb : w.heap.size ≤ b) (hf : Frm (· = b) wr wx) : RowR R wx A n V :=
  h.later (hl.trans (hf.below hl.size (fun j hj e => by omega)))
end Go.Proofs.Ytpfmjocpgnoepaa
