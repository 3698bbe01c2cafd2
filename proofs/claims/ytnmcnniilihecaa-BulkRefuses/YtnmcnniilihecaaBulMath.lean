/- Layer 10: who runs and who waits, as plain lists: admitted, picked, dropped, freed; holders of permits as their rising list. No walk. -/
import Derived.Test.YtnmcnniilihecaaPermOrd
import Derived.Test.YtnmcnniilihecaaBlk
namespace Go.Proofs.Ytnmcnniilihecaa
set_option linter.unusedVariables false

/-- How many may run, and wait, and who does. -/
structure BU where
  most : Nat
  que : Nat
  run : List Int
  wait : List Int
namespace BU
def runs (S : BU) (x : Int) : BU := ⟨S.most, S.que, S.run ++ [x], S.wait⟩
def waits (S : BU) (x : Int) : BU := ⟨S.most, S.que, S.run, S.wait ++ [x]⟩
def turn (S : BU) (y : Int) (l : List Int) : BU := ⟨S.most, S.que, S.run ++ [y], l⟩
def drop (S : BU) (x : Int) : BU := ⟨S.most, S.que, S.run, S.wait.erase x⟩
def free (S : BU) (x : Int) : BU := ⟨S.most, S.que, S.run.erase x, S.wait⟩
/-- What Pick makes of it; whom it tells; whether it told one. -/
def pick (S : BU) : BU := match S.wait with
  | [] => S
  | y :: l => if S.run.length < S.most then S.turn y l else S
def first (S : BU) : Int := match S.wait with
  | [] => 0
  | y :: _ => if S.run.length < S.most then y else 0
def picked (S : BU) : Bool := match S.wait with
  | [] => false
  | _ :: _ => decide (S.run.length < S.most)
/-- What Admit makes of it; what it tells; and who runs by that. -/
def adm (S : BU) (x : Int) : BU :=
  if x ∈ S.run ∨ x ∈ S.wait then S
  else if S.run.length < S.most ∧ S.wait = [] then S.runs x
  else if S.wait.length < S.que then S.waits x
  else match S.wait with
    | [] => S
    | y :: l => if S.run.length < S.most then (S.turn y l).waits x else S
def tells (S : BU) (x : Int) : Int :=
  if x ∈ S.run ∨ x ∈ S.wait then 3
  else if S.run.length < S.most ∧ S.wait = [] then 1
  else if S.wait.length < S.que then 2
  else match S.wait with
    | [] => 3
    | _ :: _ => if S.run.length < S.most then 2 else 3
def lets (S : BU) (x : Int) : List Int :=
  if x ∈ S.run ∨ x ∈ S.wait then []
  else if S.run.length < S.most ∧ S.wait = [] then []
  else if S.wait.length < S.que then []
  else match S.wait with
    | [] => []
    | y :: _ => if S.run.length < S.most then [y] else []
/-- What may be. -/
structure Ok (S : BU) : Prop where
  nr : S.run.Nodup
  nw : S.wait.Nodup
  apart : ∀ x ∈ S.wait, x ∉ S.run
  lr : S.run.length ≤ S.most
  lw : S.wait.length ≤ S.que
  m8 : S.most ≤ 8
  q8 : S.que ≤ 8
  wr : ∀ z ∈ S.run, wf64 z
  ww : ∀ z ∈ S.wait, wf64 z
theorem nodup_snoc {L : List Int} {x : Int} (h : L.Nodup) (hn : x ∉ L) : (L ++ [x]).Nodup := by
  rw [List.nodup_append]
  exact ⟨h, by simp, by intro a ha b hb; simp at hb; subst hb; rintro rfl; exact hn ha⟩
theorem mem_snoc {L : List Int} {x z : Int} (h : z ∈ L ++ [x]) : z ∈ L ∨ z = x := by simpa using h
section
variable {S : BU} {x y : Int} {l : List Int}
theorem Ok.runs (h : S.Ok) (hx : wf64 x) (hr : x ∉ S.run) (hw : x ∉ S.wait) (hl : S.run.length < S.most) : (S.runs x).Ok :=
  ⟨nodup_snoc h.nr hr, h.nw, fun z hz hc => by rcases mem_snoc hc with hc | rfl; exact h.apart z hz hc; exact hw hz, by show (S.run ++ [x]).length ≤ S.most; rw [List.length_append]; simp; omega, h.lw, h.m8, h.q8, fun z hz => by rcases mem_snoc hz with hz | rfl; exact h.wr z hz; exact hx, h.ww⟩
theorem Ok.waits (h : S.Ok) (hx : wf64 x) (hr : x ∉ S.run) (hw : x ∉ S.wait) (hl : S.wait.length < S.que) : (S.waits x).Ok :=
  ⟨h.nr, nodup_snoc h.nw hw, fun z hz hc => by rcases mem_snoc hz with hz | rfl; exact h.apart z hz hc; exact hr hc, h.lr, by show (S.wait ++ [x]).length ≤ S.que; rw [List.length_append]; simp; omega, h.m8, h.q8, h.wr, fun z hz => by rcases mem_snoc hz with hz | rfl; exact h.ww z hz; exact hx⟩
theorem Ok.turn (h : S.Ok) (he : S.wait = y :: l) (hl : S.run.length < S.most) : (S.turn y l).Ok := by
  have hnw := h.nw
  have hap := h.apart
  have hww := h.ww
  have hlw := h.lw
  rw [he] at hnw hap hww hlw
  have h1 := List.nodup_cons.1 hnw
  exact ⟨nodup_snoc h.nr (hap y (by simp)), h1.2, fun z hz hc => by rcases mem_snoc hc with hc | rfl; exact hap z (by simp [show z ∈ l from hz]) hc; exact h1.1 hz, by show (S.run ++ [y]).length ≤ S.most; rw [List.length_append]; simp; omega, by show l.length ≤ S.que; simp at hlw; omega, h.m8, h.q8, fun z hz => by rcases mem_snoc hz with hz | rfl; exact h.wr z hz; exact hww _ (by simp), fun z hz => hww z (by simp [show z ∈ l from hz])⟩
theorem Ok.drop (h : S.Ok) (x : Int) : (S.drop x).Ok :=
  ⟨h.nr, h.nw.erase x, fun z hz => h.apart z (List.mem_of_mem_erase hz), h.lr, Nat.le_trans List.length_erase_le h.lw, h.m8, h.q8, h.wr, fun z hz => h.ww z (List.mem_of_mem_erase hz)⟩
theorem Ok.free (h : S.Ok) (x : Int) : (S.free x).Ok :=
  ⟨h.nr.erase x, h.nw, fun z hz hc => h.apart z hz (List.mem_of_mem_erase hc), Nat.le_trans List.length_erase_le h.lr, h.lw, h.m8, h.q8, fun z hz => h.wr z (List.mem_of_mem_erase hz), h.ww⟩
end
end BU

/-- The holders of those that run, rising. -/
def hol : List Int → List Hol
  | [] => []
  | x :: L => insH (x, 0) (hol L)
theorem mem_hol {h : Hol} : ∀ {L : List Int}, h ∈ hol L ↔ h.1 ∈ L ∧ h.2 = 0
  | [] => by simp [hol]
  | x :: L => by
    rw [hol, mem_insH, mem_hol]
    constructor
    · rintro (rfl | ⟨a, b⟩)
      · simp
      · simp [a, b]
    · rintro ⟨a, b⟩
      rcases List.mem_cons.1 a with a | a
      · exact .inl (Prod.ext a b)
      · exact .inr ⟨a, b⟩
theorem mem_hol0 {x : Int} {L : List Int} : (x, (0 : Int)) ∈ hol L ↔ x ∈ L := by simp [mem_hol]
theorem length_hol : ∀ L : List Int, (hol L).length = L.length
  | [] => rfl
  | x :: L => by rw [hol, length_insH, length_hol L]; rfl
theorem rise_hol : ∀ {L : List Int}, L.Nodup → Rise (hol L)
  | [], _ => rise_nil
  | x :: L, h => by
    have h1 := List.nodup_cons.1 h
    exact rise_insH (rise_hol h1.2) (by rw [mem_hol0]; exact h1.1)
theorem hol_snoc {L : List Int} {x : Int} (h : L.Nodup) (hx : x ∉ L) : insH (x, 0) (hol L) = hol (L ++ [x]) := by
  refine rise_unique (rise_insH (rise_hol h) (by rw [mem_hol0]; exact hx)) (rise_hol (BU.nodup_snoc h hx)) fun z => ?_
  rw [mem_insH, mem_hol, mem_hol, List.mem_append, List.mem_singleton]
  constructor
  · rintro (rfl | ⟨a, b⟩)
    · simp
    · exact ⟨.inl a, b⟩
  · rintro ⟨a | a, b⟩
    · exact .inr ⟨a, b⟩
    · exact .inl (Prod.ext a b)
theorem hol_erase {L : List Int} {x : Int} (h : L.Nodup) : outH (x, 0) (hol L) = hol (L.erase x) := by
  refine rise_unique (rise_outH (rise_hol h)) (rise_hol (h.erase x)) fun z => ?_
  rw [mem_outH, mem_hol, mem_hol, h.mem_erase_iff]
  constructor
  · rintro ⟨⟨a, b⟩, c⟩
    exact ⟨⟨fun e => c (Prod.ext e b), a⟩, b⟩
  · rintro ⟨⟨a, b⟩, c⟩
    exact ⟨⟨b, c⟩, fun e => a (congrArg Prod.fst e)⟩
end Go.Proofs.Ytnmcnniilihecaa
