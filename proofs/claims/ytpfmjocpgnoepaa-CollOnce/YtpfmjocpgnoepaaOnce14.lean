/- Layer 14: what CollOnce leans on: slices of batches, batches that were told, windows beside rows of the call's own. -/
import Derived.Test.YtpfmjocpgnoepaaDeed14
namespace Go.Proofs.Ytpfmjocpgnoepaa
set_option linter.unusedVariables false
open Go.ChangeShapes Go.WideShapes Go.ChangeAt Go.RowKit

/-- A row's block is none of some. -/
def OffB (F : Nat → Prop) (A : Option Addr) (n : Nat) : Prop := ∀ b off, A = some ⟨b, off, none⟩ → 0 < n → ¬ F b
theorem Bat.offB {F : Nat → Prop} {w w' : World} {A M : Option Addr} {n c m d : Nat} {zs : List Int} {ms : List P2} (h : Bat w A n c M m d zs ms) (hA : OffB F A n) (hM : OffB F M m) (hf : Frm F w w') : Bat w' A n c M m d zs ms :=
  ⟨h.ar.apart hf (fun b off e hn hb => hA b off e hn hb), h.mr.apart hf (fun b off e hn hb => hM b off e hn hb), h.nc, h.md, h.fits⟩
theorem Fresh.offB {F : Nat → Prop} {B : Nat} {A : Option Addr} (h : Fresh B A) (hF : ∀ j, F j → j < B) (n : Nat) : OffB F A n := fun b off e _ hf => by have := hF b hf; have := h b off e; omega
/-- A batch by value, as an element of a slice. -/
structure BS where
  A : Option Addr
  n : Nat
  c : Nat
  M : Option Addr
  m : Nat
  d : Nat
def brec : Rec BS := ⟨fun x => [.slice x.A x.n x.c, .slice x.M x.m x.d], 2, by decide, fun _ => rfl, fun a u hu => by simp at hu; rcases hu with rfl | rfl <;> rfl⟩
theorem tBB : SlT Try.prog brec 104 34 := slT_of (z := .agg #[.slice none 0 0, .slice none 0 0]) (n := 2) (by_ := 48) (by kernel_rfl) (by kernel_rfl) rfl (by decide) rfl
theorem RowR.bat_at {w : World} {A : Option Addr} {n : Nat} {V : List BS} (h : RowR brec w A n V) {i : Nat} (hi : i < n) : ∃ b off x, A = some ⟨b, off, none⟩ ∧ V[i]? = some x ∧ w.cell? ⟨b, off + i * 2, none⟩ = some (.slice x.A x.n x.c) ∧ w.cell? ⟨b, off + i * 2 + 1, none⟩ = some (.slice x.M x.m x.d) := by
  obtain ⟨b, off, a, hA, hV, _, hc⟩ := h.at_ hi
  exact ⟨b, off, a, hA, hV, hc 0 _ rfl, hc 1 _ rfl⟩
/-- What a batch is. -/
structure PB where
  zs : List Int
  ms : List P2
/-- A batch that was told, and where its rows do not lie. -/
structure TB (w : World) (G : Nat → Prop) (x : BS) (p : PB) : Prop where
  bat : Bat w x.A x.n x.c x.M x.m x.d p.zs p.ms
  a : OffB G x.A x.n
  m : OffB G x.M x.m
theorem TB.grow {w w' : World} {G G' F : Nat → Prop} {x : BS} {p : PB} (h : TB w G x p) (hf : Frm F w w') (hF : ∀ j, F j → G j) (hG : ∀ j, G' j → G j ∨ w.heap.size ≤ j) : TB w' G' x p :=
  ⟨h.bat.offB (fun b off e hn hb => h.a b off e hn (hF b hb)) (fun b off e hn hb => h.m b off e hn (hF b hb)) hf,
   fun b off e hn hb => by rcases hG b hb with h1 | h1; exact h.a b off e hn h1; have := h.bat.ar.lt e hn; omega,
   fun b off e hn hb => by rcases hG b hb with h1 | h1; exact h.m b off e hn h1; have := h.bat.mr.lt e hn; omega⟩
def AllB (w : World) (G : Nat → Prop) : List BS → List PB → Prop
  | [], [] => True
  | x :: xs, p :: ps => TB w G x p ∧ AllB w G xs ps
  | _, _ => False
theorem AllB.map {w w' : World} {G G' : Nat → Prop} (f : ∀ x p, TB w G x p → TB w' G' x p) : ∀ {xs : List BS} {ps : List PB}, AllB w G xs ps → AllB w' G' xs ps
  | [], [], _ => trivial
  | _ :: _, _ :: _, h => ⟨f _ _ h.1, AllB.map f h.2⟩
  | [], _ :: _, h => h.elim
  | _ :: _, [], h => h.elim
theorem AllB.snoc {w : World} {G : Nat → Prop} {x : BS} {p : PB} (hx : TB w G x p) : ∀ {xs : List BS} {ps : List PB}, AllB w G xs ps → AllB w G (xs ++ [x]) (ps ++ [p])
  | [], [], _ => ⟨hx, trivial⟩
  | _ :: _, _ :: _, h => ⟨h.1, AllB.snoc hx h.2⟩
  | [], _ :: _, h => h.elim
  | _ :: _, [], h => h.elim
theorem AllB.len {w : World} {G : Nat → Prop} : ∀ {xs : List BS} {ps : List PB}, AllB w G xs ps → xs.length = ps.length
  | [], [], _ => rfl
  | _ :: _, _ :: _, h => by simp [AllB.len h.2]
  | [], _ :: _, h => h.elim
  | _ :: _, [], h => h.elim
theorem AllB.at_ {w : World} {G : Nat → Prop} : ∀ {xs : List BS} {ps : List PB} {i : Nat} {x : BS}, AllB w G xs ps → xs[i]? = some x → ∃ p, ps[i]? = some p ∧ TB w G x p
  | x :: _, p :: _, 0, y, h, e => by
    simp only [List.getElem?_cons_zero, Option.some.injEq] at e
    subst e
    exact ⟨p, rfl, h.1⟩
  | _ :: _, _ :: _, i + 1, y, h, e => by
    simp only [List.getElem?_cons_succ] at e
    obtain ⟨p, h1, h2⟩ := AllB.at_ h.2 e
    exact ⟨p, by simpa using h1, h2⟩
  | [], [], _, _, _, e => by simp at e
  | [], _ :: _, _, _, h, _ => h.elim
  | _ :: _, [], _, _, h, _ => h.elim
/-- The window, its rows none of some blocks. -/
def ColO (w : World) (b : Nat) (S : CO) (G : Nat → Prop) : Prop := ∃ A n c M m d, ColAt w b S A n c M m d ∧ OffB G A n ∧ OffB G M m
theorem ColO.col {w : World} {b : Nat} {S : CO} {G : Nat → Prop} (h : ColO w b S G) : Col w b S := by
  obtain ⟨A, n, c, M, m, d, h, _⟩ := h
  exact ⟨A, n, c, M, m, d, h⟩
theorem ColO.grow {w w' : World} {b : Nat} {S : CO} {G G' F : Nat → Prop} (h : ColO w b S G) (hf : Frm F w w') (hb : ¬ F b) (hF : ∀ j, F j → G j) (hG : ∀ j, G' j → G j ∨ w.heap.size ≤ j) : ColO w' b S G' := by
  obtain ⟨A, n, c, M, m, d, h, hA, hM⟩ := h
  refine ⟨A, n, c, M, m, d, ⟨(hf.block b (heap_lt h.blk) hb).trans h.blk, h.bat.offB (fun b off e hn hb => hA b off e hn (hF b hb)) (fun b off e hn hb => hM b off e hn (hF b hb)) hf, h.frA, h.frM⟩, fun x off e hn hx => ?_, fun x off e hn hx => ?_⟩
  · rcases hG x hx with h1 | h1
    · exact hA x off e hn h1
    · have := h.bat.ar.lt e hn; omega
  · rcases hG x hx with h1 | h1
    · exact hM x off e hn h1
    · have := h.bat.mr.lt e hn; omega
theorem ColF.offs {w : World} {b lo : Nat} {S : CO} {G : Nat → Prop} (h : ColF w b S lo) (hG : ∀ j, G j → j < lo) : ColO w b S G := by
  obtain ⟨A, n, c, M, m, d, h, hA, hM⟩ := h
  exact ⟨A, n, c, M, m, d, h, hA.offB hG _, hM.offB hG _⟩
theorem Col.offs {w : World} {b : Nat} {S : CO} (h : Col w b S) (hz : S.zs = []) (hm : S.ms = []) (G : Nat → Prop) : ColO w b S G := by
  obtain ⟨A, n, c, M, m, d, h⟩ := h
  have h1 := h.bat.alen
  have h2 := h.bat.mlen
  rw [hz] at h1
  rw [hm] at h2
  simp only [List.length_nil] at h1 h2
  exact ⟨A, n, c, M, m, d, h, fun _ _ _ h0 => by omega, fun _ _ _ h0 => by omega⟩

/-! ### the plain window -/
structure FW (S : CO) (N W : Int) : Prop where
  win : S.win = W
  most : S.most = N
  lt : (S.zs.length : Int) < N
  emp : S.zs = [] ↔ S.ms = []
def moreW (zs : List Int) (x : Int) : List Int := if x ∈ zs then zs else zs ++ [x]
theorem moreW_len (zs : List Int) (x : Int) : (moreW zs x).length ≤ zs.length + 1 := by unfold moreW; split <;> simp
theorem moreW_pos (zs : List Int) (x : Int) : 1 ≤ (moreW zs x).length := by
  unfold moreW; split
  · rename_i h
    cases zs with
    | nil => cases h
    | cons _ _ => simp
  · simp
theorem FW.opn {S : CO} {N W : Int} (h : FW S N W) : S.opn = !S.zs.isEmpty := by
  unfold CO.opn
  cases hz : S.zs with
  | nil => rw [h.emp.1 hz]; rfl
  | cons a l => cases hm : S.ms with
    | nil => rw [h.emp.2 hm] at hz; cases hz
    | cons _ _ => rfl
theorem FW.zs1 {S : CO} {N W : Int} (h : FW S N W) (x : Int) : S.zs1 x = moreW S.zs x := by
  unfold CO.zs1
  rw [h.opn]
  cases hz : S.zs with
  | nil => rfl
  | cons a l =>
    rw [← hz]
    have : (!S.zs.isEmpty) = true := by rw [hz]; rfl
    rw [if_pos this]
    unfold addA moreW
    have hl : ¬ S.most ≤ (S.zs.length : Int) := by rw [h.most]; have := h.lt; omega
    rw [if_neg hl]
theorem FW.zlen {S : CO} {N W : Int} (h : FW S N W) (x : Int) : 1 ≤ (S.zs1 x).length ∧ ((S.zs1 x).length : Int) ≤ N := by
  rw [h.zs1]
  have h1 := moreW_len S.zs x
  have h2 := h.lt
  exact ⟨moreW_pos _ _, by omega⟩
theorem FW.ms1 {S : CO} {N W : Int} (h : FW S N W) (id x : Int) : (S.ms1 id x).map P2.a = S.ms.map P2.a ++ [id] := by
  unfold CO.ms1
  cases ho : S.opn with
  | false =>
    have hm : S.ms = [] := by
      unfold CO.opn at ho
      cases hm : S.ms with
      | nil => rfl
      | cons _ _ => rw [hm] at ho; cases ho
    rw [hm]
    rfl
  | true =>
    have hl : ¬ S.most ≤ (S.zs.length : Int) := by rw [h.most]; have := h.lt; omega
    unfold addM
    rw [if_pos rfl, if_pos (.inr hl)]
    simp
theorem FW.ms1_len {S : CO} {N W : Int} (h : FW S N W) (id x : Int) : (S.ms1 id x).length = S.ms.length + 1 := by
  have := congrArg List.length (h.ms1 id x)
  simpa using this
theorem FW.shut {S : CO} {N W : Int} (h : FW S N W) (hN : 1 ≤ N) : FW S.shut N W := ⟨h.win, h.most, by show (0 : Int) < N; omega, ⟨fun _ => rfl, fun _ => rfl⟩⟩
theorem FW.next {S : CO} {N W : Int} (h : FW S N W) (hN : 1 ≤ N) (now id x : Int) : FW (S.next now id x) N W := by
  unfold CO.next
  cases hf : S.full1 x
  · refine ⟨h.win, h.most, ?_, ?_⟩
    · unfold CO.full1 at hf
      have := of_decide_eq_false hf
      rw [h.most] at this
      show ((S.zs1 x).length : Int) < N
      omega
    · show S.zs1 x = [] ↔ S.ms1 id x = []
      have h1 := (h.zlen x).1
      have h2 := h.ms1_len id x
      exact ⟨fun e => (by rw [e] at h1; cases h1), fun e => (by rw [e] at h2; simp at h2)⟩
  · exact h.shut hN
theorem FW.some {S : CO} {N W : Int} (h : FW S N W) (ho : S.opn = true) : 1 ≤ S.zs.length := by
  rw [h.opn] at ho
  cases hz : S.zs with
  | nil => rw [hz] at ho; cases ho
  | cons _ _ => simp
/-- Whose ids were told, one behind the other. -/
def idsP (ps : List PB) : List Int := ps.flatMap (fun p => p.ms.map P2.a)
theorem idsP_snoc (ps : List PB) (p : PB) : idsP (ps ++ [p]) = idsP ps ++ p.ms.map P2.a := by simp [idsP]
theorem idsP_append (a b : List PB) : idsP (a ++ b) = idsP a ++ idsP b := by simp [idsP]
theorem idsP_take {ps : List PB} {i : Nat} {p : PB} (h : ps[i]? = some p) : idsP (ps.take (i + 1)) = idsP (ps.take i) ++ p.ms.map P2.a := by rw [take_more h, idsP_snoc]
theorem idsP_at {ps : List PB} {i k : Nat} {p : PB} {x : P2} (h : ps[i]? = some p) (hk : p.ms[k]? = some x) : (idsP ps)[(idsP (ps.take i)).length + k]? = some x.a := by
  have e : ps = ps.take (i + 1) ++ ps.drop (i + 1) := (List.take_append_drop _ _).symm
  have e2 : idsP ps = idsP (ps.take i) ++ (p.ms.map P2.a ++ idsP (ps.drop (i + 1))) := by
    conv => lhs; rw [e, idsP_append, idsP_take h]
    rw [List.append_assoc]
  have hlt := (List.getElem?_eq_some_iff.1 hk).1
  rw [e2, List.getElem?_append_right (by omega), Nat.add_sub_cancel_left, List.getElem?_append_left (by simpa using hlt), List.getElem?_map, hk]
  rfl
/-- The law's two rows' blocks. -/
def GG (v8 v9 : Value) (j : Nat) : Prop := v8.ownBlock = some j ∨ v9.ownBlock = some j
/-- As memory stands between two deeds. -/
structure CH (w0 w : World) (b : Nat) (S : CO) (v8 v9 : Value) (CL : List Int) (TL : List BS) (PL : List PB) : Prop where
  col : ColO w b S (GG v8 v9)
  own8 : OwnR irec w (b + 1) 3 v8 CL
  own9 : OwnR brec w (b + 1) 34 v9 TL
  all : AllB w (fun j => j = b ∨ GG v8 v9 j) TL PL
  low : Below w0.heap.size w0 w
section
variable {w0 w w' : World} {b : Nat} {S : CO} {v8 v9 : Value} {CL : List Int} {TL : List BS} {PL : List PB}
theorem CH.below (h : CH w0 w b S v8 v9 CL TL PL) (hb : Below w.heap.size w w') : CH w0 w' b S v8 v9 CL TL PL :=
  ⟨h.col.grow (F := fun _ => False) (Frm.of_below hb) id (fun _ e => e.elim) (fun _ e => .inl e), h.own8.below hb, h.own9.below hb,
   h.all.map (fun x p t => t.grow (F := fun _ => False) (Frm.of_below hb) (fun _ e => e.elim) (fun _ e => .inl e)), h.low.trans (hb.mono h.low.size)⟩
theorem CH.lt8 (h : CH w0 w b S v8 v9 CL TL PL) {g : Nat} (hg : GG v8 v9 g) : b + 1 ≤ g ∧ g < w.heap.size := by
  rcases hg with hg | hg
  · obtain ⟨cs, hc⟩ := h.own8.block hg
    exact ⟨h.own8.low g hg, heap_lt hc⟩
  · obtain ⟨cs, hc⟩ := h.own9.block hg
    exact ⟨h.own9.low g hg, heap_lt hc⟩
theorem CH.ltb (h : CH w0 w b S v8 v9 CL TL PL) : b < w.heap.size := by
  obtain ⟨A, n, c, M, m, d, hc, _⟩ := h.col
  exact hc.lt
/-- The row of the ids grows. -/
theorem CH.ints (h : CH w0 w b S v8 v9 CL TL PL) {v8' : Value} {CL' : List Int} (gr : w.grownBy w' v8.ownBlock) (hor : v8'.ownBlock = v8.ownBlock ∨ v8'.ownBlock = some w.heap.size) (own : OwnR irec w' (b + 1) 3 v8' CL') (hw : w0.heap.size ≤ b) :
    CH w0 w' b S v8' v9 CL' TL PL := by
  have f : Frm (fun j => v8.ownBlock = some j) w w' := ⟨gr.os, gr.tape, gr.output, gr.size, fun j hj hn => gr.block j hj (fun e => hn e.symm)⟩
  have hG : ∀ j, GG v8' v9 j → GG v8 v9 j ∨ w.heap.size ≤ j := fun j hj => by
    rcases hj with hj | hj
    · rcases hor with e | e
      · exact .inl (.inl (by rw [← e]; exact hj))
      · rw [e] at hj; cases hj; exact .inr (Nat.le_refl _)
    · exact .inl (.inr hj)
  refine ⟨h.col.grow f (fun e => by have := h.lt8 (.inl e); omega) (fun j e => .inl e) hG, own, h.own9.frm f (fun j e cs hc => ?_), h.all.map (fun x p t => t.grow f (fun j e => .inr (.inl e)) (fun j e => ?_)), h.low.trans (f.below h.low.size (fun j hj e => by have := h.lt8 (.inl e); omega))⟩
  · obtain ⟨cs', hc'⟩ := h.own8.block e
    rw [hc'] at hc
    cases hc
  · rcases e with e | e
    · exact .inl (.inl e)
    · rcases hG j e with h1 | h1
      · exact .inl (.inr h1)
      · exact .inr h1
/-- A batch is told. -/
theorem CH.bats (h : CH w0 w b S v8 v9 CL TL PL) {v9' : Value} {x : BS} {p : PB} (gr : w.grownBy w' v9.ownBlock) (hor : v9'.ownBlock = v9.ownBlock ∨ v9'.ownBlock = some w.heap.size) (own : OwnR brec w' (b + 1) 34 v9' (TL ++ [x])) (hx : TB w (fun j => j = b ∨ GG v8 v9 j) x p) (hw : w0.heap.size ≤ b) :
    CH w0 w' b S v8 v9' CL (TL ++ [x]) (PL ++ [p]) := by
  have f : Frm (fun j => v9.ownBlock = some j) w w' := ⟨gr.os, gr.tape, gr.output, gr.size, fun j hj hn => gr.block j hj (fun e => hn e.symm)⟩
  have hG : ∀ j, GG v8 v9' j → GG v8 v9 j ∨ w.heap.size ≤ j := fun j hj => by
    rcases hj with hj | hj
    · exact .inl (.inl hj)
    · rcases hor with e | e
      · exact .inl (.inr (by rw [← e]; exact hj))
      · rw [e] at hj; cases hj; exact .inr (Nat.le_refl _)
  have hT : ∀ x p, TB w (fun j => j = b ∨ GG v8 v9 j) x p → TB w' (fun j => j = b ∨ GG v8 v9' j) x p := fun x p t => t.grow f (fun j e => .inr (.inr e)) (fun j e => by
    rcases e with e | e
    · exact .inl (.inl e)
    · rcases hG j e with h1 | h1
      · exact .inl (.inr h1)
      · exact .inr h1)
  refine ⟨h.col.grow f (fun e => by have := h.lt8 (.inr e); omega) (fun j e => .inr e) hG, h.own8.frm f (fun j e cs hc => ?_), own, (h.all.map hT).snoc (hT _ _ hx), h.low.trans (f.below h.low.size (fun j hj e => by have := h.lt8 (.inr e); omega))⟩
  obtain ⟨cs', hc'⟩ := h.own9.block e
  rw [hc'] at hc
  cases hc
/-- The window turns, and nothing else. -/
theorem CH.turn (h : CH w0 w b S v8 v9 CL TL PL) {S' : CO} (hf : Frm (· = b) w w') (hc : ColO w' b S' (GG v8 v9)) (hw : w0.heap.size ≤ b) : CH w0 w' b S' v8 v9 CL TL PL := by
  obtain ⟨A, n, c, M, m, d, hk, _⟩ := h.col
  refine ⟨hc, h.own8.frm hf (fun j e cs hh => ?_), h.own9.frm hf (fun j e cs hh => ?_), h.all.map (fun x p t => t.grow hf (fun j e => .inl e) (fun j e => .inl e)), h.low.trans (hf.below h.low.size (fun j hj e => by omega))⟩
  · rw [show j = b from e, hk.blk] at hh; cases hh
  · rw [show j = b from e, hk.blk] at hh; cases hh
end
theorem expire_O (b : Nat) (S : CO) (now : Int) (G : Nat → Prop) (w : World) (h : ColO w b S G) :
    Calls Try.prog 49 #[.pointer (some ⟨b, 0, none⟩), .int .u64 now] w fun r w' => ∃ A n c M m d, r = .returned (.tuple #[batV A n c M m d, .bool (S.exp now)]) ∧ ColO w' b (S.wait now) G ∧ TB w' (fun j => j = b ∨ G j) ⟨A, n, c, M, m, d⟩ ⟨if S.exp now then S.zs else [], if S.exp now then S.ms else []⟩ ∧ Frm (· = b) w w' := by
  obtain ⟨A, n, c, M, m, d, h, h1, h2⟩ := h
  unfold CO.wait
  cases hx : S.exp now with
  | false =>
    refine (expire_not b S A n c M m d now w h hx).mono ?_
    rintro r w' ⟨rfl, hl⟩
    exact ⟨none, 0, 0, none, 0, 0, rfl, ⟨A, n, c, M, m, d, h.below hl, h1, h2⟩, ⟨Bat.nil _ _ _, (fun _ _ e => by cases e), (fun _ _ e => by cases e)⟩, Frm.of_below hl⟩
  | true =>
    refine (expire_yes b S A n c M m d now w h hx).mono ?_
    rintro r w' ⟨rfl, hc, hb, hf⟩
    refine ⟨A, n, c, M, m, d, rfl, ⟨_, _, _, _, _, _, hc, (fun _ _ e => by cases e), (fun _ _ e => by cases e)⟩, ⟨hb, fun x off e hn hx => ?_, fun x off e hn hx => ?_⟩, hf⟩
    · rcases hx with hx | hx
      · have := h.frA x off e; omega
      · exact h1 x off e hn hx
    · rcases hx with hx | hx
      · have := h.frM x off e; omega
      · exact h2 x off e hn hx
/-- As the numbers stand between two deeds. -/
structure PN (S : CO) (N W due : Int) (CL : List Int) (PL : List PB) (i K : Nat) : Prop where
  fw : FW S N W
  due : S.opn = true → due = S.due ∧ due ≤ 18446744073709551615
  ids : CL = idsP PL ++ S.ms.map P2.a
  lens : ∀ p ∈ PL, 1 ≤ p.zs.length ∧ (p.zs.length : Int) ≤ N
  cl : CL.length = i
  ml : S.ms.length ≤ i
  pl : PL.length ≤ K
section
variable {S : CO} {N W due : Int} {CL : List Int} {PL : List PB} {i K : Nat}
theorem lens_snoc {p : PB} (h : ∀ q ∈ PL, 1 ≤ q.zs.length ∧ (q.zs.length : Int) ≤ N) (hp : 1 ≤ p.zs.length ∧ (p.zs.length : Int) ≤ N) : ∀ q ∈ PL ++ [p], 1 ≤ q.zs.length ∧ (q.zs.length : Int) ≤ N := fun q hq => by
  rcases List.mem_append.1 hq with hq | hq
  · exact h q hq
  · rw [List.mem_singleton.1 hq]; exact hp
theorem PN.told (h : PN S N W due CL PL i K) (ho : S.opn = true) (hN : 1 ≤ N) : PN S.shut N W due CL (PL ++ [⟨S.zs, S.ms⟩]) i (K + 1) :=
  ⟨h.fw.shut hN, (fun e => by cases e), by rw [idsP_snoc, h.ids]; simp [CO.shut], lens_snoc h.lens ⟨h.fw.some ho, by have := h.fw.lt; show (S.zs.length : Int) ≤ N; omega⟩, h.cl, Nat.zero_le _, by have := h.pl; simp; omega⟩
theorem PN.more (h : PN S N W due CL PL i K) (hN : 1 ≤ N) (now id x : Int) (hn : 0 ≤ now) (hW : 0 ≤ W) (hf : S.full1 x = false) : PN (S.next now id x) N W (if S.opn then due else (S.step now id x).due) (CL ++ [id]) PL (i + 1) K := by
  have e1 : S.next now id x = S.more now id x := by unfold CO.next; rw [hf]; rfl
  refine ⟨h.fw.next hN now id x, fun _ => ?_, ?_, h.lens, by simp [h.cl], ?_, h.pl⟩
  · rw [e1]
    show (if S.opn then due else (if S.opn then 0 else addS now S.win)) = S.due1 now ∧ _
    unfold CO.due1
    cases ho : S.opn with
    | true => exact h.due ho
    | false =>
      have e : (S.step now id x).due = addS now S.win := by show (if S.opn then 0 else addS now S.win) = _; rw [ho]; rfl
      rw [if_neg (by decide), e, h.fw.win]
      exact ⟨rfl, (addS_bd hn hW).2⟩
  · rw [e1]
    show CL ++ [id] = idsP PL ++ (S.ms1 id x).map P2.a
    rw [h.fw.ms1, h.ids, List.append_assoc]
  · rw [e1]
    show (S.ms1 id x).length ≤ i + 1
    rw [h.fw.ms1_len]
    have := h.ml
    omega
theorem PN.full (h : PN S N W due CL PL i K) (hN : 1 ≤ N) (now id x due' : Int) (hf : S.full1 x = true) : PN (S.next now id x) N W due' (CL ++ [id]) (PL ++ [⟨(S.step now id x).zs, (S.step now id x).ms⟩]) (i + 1) (K + 1) := by
  have e1 : S.next now id x = S.shut := by unfold CO.next; rw [hf]; rfl
  have e2 : (S.step now id x).zs = S.zs1 x := by simp [CO.step, hf]
  have e3 : (S.step now id x).ms = S.ms1 id x := by simp [CO.step, hf]
  rw [e1, e2, e3]
  refine ⟨h.fw.shut hN, (fun e => by cases e), ?_, lens_snoc h.lens (h.fw.zlen x), by simp [h.cl], Nat.zero_le _, by have := h.pl; simp; omega⟩
  rw [idsP_snoc]
  show CL ++ [id] = idsP PL ++ (S.ms1 id x).map P2.a ++ []
  rw [h.fw.ms1, h.ids, List.append_nil, List.append_assoc]
theorem PN.exp (h : PN S N W due CL PL i K) (ho : S.opn = true) : S.exp due = true ∧ S.exp 18446744073709551615 = true := by
  have hd := h.due ho
  unfold CO.exp
  rw [ho, ← hd.1]
  exact ⟨by simp, by simpa using hd.2⟩
end
end Go.Proofs.Ytpfmjocpgnoepaa
