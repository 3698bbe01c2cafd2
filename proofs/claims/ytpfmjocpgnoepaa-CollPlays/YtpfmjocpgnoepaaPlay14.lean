/- Layer 14: what CollPlays leans on: the program's window beside the document's; Expire of both; where rows lie. -/
import Derived.Test.YtpfmjocpgnoepaaDeed14
import Derived.Test.YtpfmjocpgnoepaaReal14
import Derived.Test.YtpfmjocpgnoepaaRef14b
import Derived.Test.YtpfmjocpgnoepaaRef14c
namespace Go.Proofs.Ytpfmjocpgnoepaa
set_option linter.unusedVariables false
open Go.ChangeShapes Go.WideShapes Go.ChangeAt Go.RowKit

theorem Off.none (F : Nat → Prop) (n : Nat) : Off F none n := fun _ _ e => by cases e
theorem Off.mono {F F' : Nat → Prop} {A : Option Addr} {n : Nat} (h : Off F A n) (hF : ∀ j, F' j → F j) : Off F' A n := fun b off e hn hf => h b off e hn (hF b hf)
theorem Fresh.off {F : Nat → Prop} {B : Nat} {A : Option Addr} (h : Fresh B A) (hF : ∀ j, F j → j < B) (n : Nat) : Off F A n := fun b off e _ hf => by have := hF b hf; have := h b off e; omega
theorem Bat.offs {F : Nat → Prop} {w w' : World} {A M : Option Addr} {n c m d : Nat} {zs : List Int} {ms : List P2} (h : Bat w A n c M m d zs ms) (hA : Off F A n) (hM : Off F M m) (hf : Frm F w w') : Bat w' A n c M m d zs ms :=
  ⟨h.ar.apart hf (fun b off e hn hb => hA b off e hn hb), h.mr.apart hf (fun b off e hn hb => hM b off e hn hb), h.nc, h.md, h.fits⟩
/-- Rows lie below where a new block is laid. -/
theorem Bat.offNew {w : World} {A M : Option Addr} {n c m d : Nat} {zs : List Int} {ms : List P2} (h : Bat w A n c M m d zs ms) : Off (· = w.heap.size) A n ∧ Off (· = w.heap.size) M m :=
  ⟨fun b off e hn hb => Nat.ne_of_lt (h.ar.lt e hn) hb, fun b off e hn hb => Nat.ne_of_lt (h.mr.lt e hn) hb⟩
theorem ColF.off {w w' : World} {b lo g : Nat} {S : CO} (h : ColF w b S lo) (hf : Frm (· = g) w w') (hb : b ≠ g) (hg : g < lo) : ColF w' b S lo := by
  obtain ⟨A, n, c, M, m, d, h, h1, h2⟩ := h
  exact ⟨A, n, c, M, m, d, ⟨(hf.block b (heap_lt h.blk) hb).trans h.blk, h.bat.offs (h1.off (fun j e => by omega) _) (h2.off (fun j e => by omega) _) hf, h.frA, h.frM⟩, h1, h2⟩
theorem expire_colF (b : Nat) (S : CO) (lo now : Int) {l : Nat} (w : World) (h : ColF w b S l) :
    Calls Try.prog 49 #[.pointer (some ⟨b, 0, none⟩), .int .u64 now] w fun r w' => ∃ A n c M m d, r = .returned (.tuple #[batV A n c M m d, .bool (S.exp now)]) ∧ ColF w' b (S.wait now) l ∧ Bat w' A n c M m d (if S.exp now then S.zs else []) (if S.exp now then S.ms else []) ∧ (Fresh l A ∧ Fresh l M) ∧ Frm (· = b) w w' := by
  obtain ⟨A, n, c, M, m, d, h, h1, h2⟩ := h
  unfold CO.wait
  cases hx : S.exp now with
  | false =>
    refine (expire_not b S A n c M m d now w h hx).mono ?_
    rintro r w' ⟨rfl, hl⟩
    exact ⟨none, 0, 0, none, 0, 0, rfl, ⟨A, n, c, M, m, d, h.below hl, h1, h2⟩, Bat.nil _ _ _, ⟨Fresh.none _, Fresh.none _⟩, Frm.of_below hl⟩
  | true =>
    refine (expire_yes b S A n c M m d now w h hx).mono ?_
    rintro r w' ⟨rfl, hc, hb, hf⟩
    exact ⟨A, n, c, M, m, d, rfl, ⟨_, _, _, _, _, _, hc, Fresh.none _, Fresh.none _⟩, hb, ⟨h1, h2⟩, hf⟩
/-- The document's Expire, over a window that is told as S. -/
theorem rexp_S (F : Nat → Prop) (S : CO) (W T E : Int) (A : Option Addr) (n c : Nat) (M : Option Addr) (m d : Nat) (now : Int) (w : World) (hb : Bat w A n c M m d S.zs S.ms) (hA : Off F A n) (hM : Off F M m) (hE : S.opn = true → E = S.due) :
    Calls Try.prog 50 #[rcV W T S.opn E A n c M m d, .int .u64 now] w fun r w' => ∃ A' n' c' M' m' d' A2 n2 c2 M2 m2 d2, r = .returned (.tuple #[rcV W T (S.wait now).opn E A' n' c' M' m' d', batV A2 n2 c2 M2 m2 d2, .bool (S.exp now)]) ∧ Bat w' A' n' c' M' m' d' (S.wait now).zs (S.wait now).ms ∧ Bat w' A2 n2 c2 M2 m2 d2 (if S.exp now then S.zs else []) (if S.exp now then S.ms else []) ∧ ((Off F A' n' ∧ Off F M' m') ∧ (Off F A2 n2 ∧ Off F M2 m2)) ∧ ((S.wait now).opn = true → E = (S.wait now).due) ∧ Below w.heap.size w w' := by
  have hex : (S.opn && decide (E ≤ now)) = S.exp now := by
    unfold CO.exp
    cases ho : S.opn with
    | false => rfl
    | true => rw [hE ho]
  cases hx : S.exp now with
  | false =>
    have hw : S.wait now = S := by unfold CO.wait; rw [hx]; rfl
    rw [hw]
    refine (rexp_no W T S.opn E A n c M m d now w (hex.trans hx)).mono ?_
    rintro r w' ⟨rfl, hl⟩
    exact ⟨A, n, c, M, m, d, none, 0, 0, none, 0, 0, rfl, hb.below hl, Bat.nil _ _ _, ⟨⟨hA, hM⟩, ⟨Off.none _ _, Off.none _ _⟩⟩, hE, hl⟩
  | true =>
    have hw : S.wait now = S.shut := by unfold CO.wait; rw [hx]; rfl
    have h1 := hex.trans hx
    rw [Bool.and_eq_true] at h1
    have ho := h1.1
    rw [hw, ho]
    refine (rexp_yes W T E A n c M m d S.zs S.ms now w (of_decide_eq_true h1.2) hb).mono ?_
    rintro r w' ⟨rfl, hl⟩
    exact ⟨none, 0, 0, none, 0, 0, A, n, c, M, m, d, rfl, Bat.nil _ _ _, hb.below hl, ⟨⟨Off.none _ _, Off.none _ _⟩, ⟨hA, hM⟩⟩, (fun h => by cases h), hl⟩

/-! ### plain windows -/
theorem zs1_len (S : CO) (x : Int) : (S.zs1 x).length ≤ S.zs.length + 1 := by
  unfold CO.zs1 addA
  split
  · split
    · omega
    · split
      · omega
      · simp
  · simp
theorem ms1_len (S : CO) (id x : Int) : (S.ms1 id x).length ≤ S.ms.length + 1 := by
  unfold CO.ms1 addM
  split
  · split
    · simp
    · omega
  · simp
theorem next_len (S : CO) (now id x : Int) : (S.next now id x).zs.length ≤ S.zs.length + 1 ∧ (S.next now id x).ms.length ≤ S.ms.length + 1 := by
  unfold CO.next
  split
  · exact ⟨Nat.zero_le _, Nat.zero_le _⟩
  · exact ⟨zs1_len S x, ms1_len S id x⟩
theorem step_len (S : CO) (now id x : Int) : (S.step now id x).ms.length ≤ S.ms.length + 1 := by
  show (if S.full1 x then S.ms1 id x else []).length ≤ _
  split
  · exact ms1_len S id x
  · exact Nat.zero_le _
theorem next_same (S : CO) (now id x : Int) : (S.next now id x).win = S.win ∧ (S.next now id x).most = S.most := by
  unfold CO.next
  split <;> exact ⟨rfl, rfl⟩
theorem wait_same (S : CO) (now : Int) : (S.wait now).win = S.win ∧ (S.wait now).most = S.most ∧ (S.wait now).zs.length ≤ S.zs.length ∧ (S.wait now).ms.length ≤ S.ms.length := by
  unfold CO.wait
  split
  · exact ⟨rfl, rfl, Nat.zero_le _, Nat.zero_le _⟩
  · exact ⟨rfl, rfl, Nat.le_refl _, Nat.le_refl _⟩
theorem next_opn (S : CO) (now id x : Int) : (S.next now id x).opn = !S.full1 x := by
  unfold CO.next
  cases hf : S.full1 x with
  | true => rfl
  | false =>
    show (!(S.ms1 id x).isEmpty) = true
    unfold CO.ms1 addM
    split
    · rename_i ho
      split
      · simp
      · exact ho
    · rfl
theorem next_due (S : CO) (now id x E : Int) (hE : S.opn = true → E = S.due) : (S.next now id x).opn = true → S.endOf E now = (S.next now id x).due := by
  intro h
  rw [next_opn] at h
  have hf : S.full1 x = false := by simpa using h
  have e1 : S.next now id x = S.more now id x := by unfold CO.next; rw [hf]; rfl
  rw [e1]
  show S.endOf E now = S.due1 now
  unfold CO.endOf CO.due1
  cases ho : S.opn with
  | true => rw [hE ho]
  | false => rfl
/-- The program's window, and the document's beside it in a variable. -/
structure CP (w0 w : World) (b gx : Nat) (W T : Int) (S : CO) (i : Nat) (E : Int) (A : Option Addr) (n c : Nat) (M : Option Addr) (m d : Nat) : Prop where
  win : S.win = W
  most : S.most = T
  zl : S.zs.length ≤ i
  ml : S.ms.length ≤ i
  col : ColF w b S (gx + 1)
  blk : w.heap[gx]? = some (rcobj W T S.opn E A n c M m d)
  bat : Bat w A n c M m d S.zs S.ms
  offs : Off (fun j => j = b ∨ j = gx) A n ∧ Off (fun j => j = b ∨ j = gx) M m
  due : S.opn = true → E = S.due
  low : Below w0.heap.size w0 w
theorem CP.below {w0 w w' : World} {b gx : Nat} {W T : Int} {S : CO} {i : Nat} {E : Int} {A : Option Addr} {n c : Nat} {M : Option Addr} {m d : Nat} (h : CP w0 w b gx W T S i E A n c M m d) (hb : Below w.heap.size w w') : CP w0 w' b gx W T S i E A n c M m d :=
  ⟨h.win, h.most, h.zl, h.ml, h.col.below hb, kb_below h.blk hb, h.bat.below hb, h.offs, h.due, h.low.trans (hb.mono h.low.size)⟩
end Go.Proofs.Ytpfmjocpgnoepaa
