/- Contracts of the functions that the statement DepNobody reaches, part 1 of 5. -/
import Derived.Test.YtgnccpmkdgfjeaaGreatRows
import Derived.WalkKit
import Derived.ProofKit
import Derived.OpenShut
import Derived.ShutString
import Derived.ChangeOld
import Derived.Below
import Derived.Carry
import Derived.SizedLaws
import Derived.Deep.Slices
import Derived.Lib.Hide
import Derived.IntWalk
import Derived.WalkSpells
import Derived.BigQuiet
import Derived.Maps.OwnRows
import Derived.Laws.OwnMore
import Derived.Maps.AppendAt
import Derived.OwnWalk
import Derived.Handy
import Derived.Deep.AppendSrc
import Derived.Laws.Cover3
import Derived.StillTailTactics
import Derived.Shelf.SlSortCmp.QuietGrown
import Derived.Lib.SliceRun
import Derived.Deep.MidRow
import Derived.Deep.LoopGhost
import Derived.Deep.RegionHeld3
import Derived.DeepKeys
import Derived.Deep.DeepCutAuto
import Derived.Sort.Statements
namespace Go.Proofs.YtgnccpmkdgfjeaaGreat
open Go.ChangeShapes Go.WideShapes Go.ChangeAt Go.RowKit Go.Deep
open Go.ChangeMaps (open_string shut_string)

theorem ret_int {k : IntKind} {a b : Int} (h : a = b) : Ending.returned (.int k a) = .returned (.int k b) := by rw [h]
theorem ret_bool {a b : Bool} (h : a = b) : Ending.returned (.bool a) = .returned (.bool b) := by rw [h]

/-- Arguments that were read before a call read as they did, where nothing that was there has turned. -/
theorem trodAll_below {H : Type} {enc : TypeId × Value → H} {P : Program} (hl : laidOutB P = true) {W W' : World} (hb : Below W.heap.size W W') :
    ∀ (ts : List TypeId) (vs : List Value) (ds : List (DataW H)) (ps : List MemPlace), (ts.all fun t => P.readableRec t && decide (t < P.types.size)) = true →
      DataW.TrodAll enc P W 0 (fun _ => true) true ts vs ds ps → DataW.TrodAll enc P W' 0 (fun b => decide (b < W.heap.size)) true ts vs ds ps
  | [], [], [], _, _, h => h
  | t :: ts, v :: vs, d :: ds, ps, hr, h => by
    obtain ⟨p, q, h1, h2, e⟩ := h
    simp only [List.all_cons, Bool.and_eq_true, decide_eq_true_eq] at hr
    refine ⟨p, q, Below.trod hl hr.1.1 hr.1.2 h1 hb ?_, trodAll_below hl hb ts vs ds q hr.2 h2, e⟩
    obtain ⟨m, hm⟩ := h1
    exact DataW.trod_lt m _ _ _ hm
  | [], _ :: _, _, _, _, h => h.elim
  | [], [], _ :: _, _, _, h => h.elim
  | _ :: _, [], _, _, _, h => h.elim
  | _ :: _, _ :: _, [], _, _, h => h.elim

/-- What one cell of plain data may hold: an integer of a kind, a bool, a string. -/
abbrev CK := Option (Option IntKind)
abbrev CK.int (k : IntKind) : CK := some (some k)
abbrev CK.bool : CK := some Option.none
abbrev CK.str : CK := Option.none

def CK.ok : CK → Value → Prop
  | some (some k), v => ∃ n, v = .int k n ∧ (Lit.int k n).wf = true
  | some Option.none, v => ∃ b, v = .bool b
  | Option.none, v => ∃ s : ByteArray, v = .string s ∧ s.size ≤ maxLen

/-- The cells of plain data, kind by kind. -/
def Flat : List CK → List Value → Prop
  | [], [] => True
  | c :: cs, v :: vs => c.ok v ∧ Flat cs vs
  | _, _ => False

theorem Flat.length : ∀ {ks : List CK} {vs : List Value}, Flat ks vs → vs.length = ks.length
  | [], [], _ => rfl
  | _ :: _, _ :: _, h => by simp [Flat.length h.2]
  | [], _ :: _, h => h.elim
  | _ :: _, [], h => h.elim
theorem Flat.append : ∀ {a : List CK} {b : List CK} {u v : List Value}, Flat a u → Flat b v → Flat (a ++ b) (u ++ v)
  | [], _, [], _, _, h => h
  | _ :: _, _, _ :: _, _, h, g => ⟨h.1, h.2.append g⟩
  | [], _, _ :: _, _, h, _ => h.elim
  | _ :: _, _, [], _, h, _ => h.elim

def fieldKinds (P : Program) (g : TypeId → Option (List CK)) : List Field → Nat → Option (List CK)
  | [], _ => some []
  | fd :: fs, off => (g fd.type).bind fun l => if fd.offset = off ∧ P.cellsOf fd.type = l.length then (fieldKinds P g fs (off + l.length)).map (l ++ ·) else none
/-- The kinds of a type's cells, where it is plain data laid out in a row. -/
def kindsOf (P : Program) : Nat → TypeId → Option (List CK)
  | 0, _ => none
  | f + 1, t =>
    match P.underlying t with
    | some .bool => some [.bool]
    | some (.int k) => some [.int k]
    | some .string => some [.str]
    | some (.struct fs) => (fieldKinds P (kindsOf P f) fs.toList 0).bind fun l => if P.cellsOf t = l.length then some l else none
    | some (.array n e) => (kindsOf P f e).bind fun l => if P.cellsOf e = l.length ∧ P.cellsOf t = n * l.length then some (List.replicate n l).flatten else none
    | _ => none

section
variable {H : Type} {enc : TypeId × Value → H} {P : Program} {w : World} {base : Nat} {spare : Nat → Bool} {held : Bool}

theorem flat_fields {g : TypeId → Option (List CK)} {n : Nat}
    (hg : ∀ t ks cs x, g t = some ks → DataW.trod enc P w base spare held n t cs = some x → Flat ks cs) :
    ∀ (fs : List Field) (off : Nat) (ks : List CK) (cs : List Value), fieldKinds P g fs off = some ks → cs.length = off + ks.length →
      (∀ fd ∈ fs, ∃ x, DataW.trod enc P w base spare held n fd.type ((cs.drop fd.offset).take (P.cellsOf fd.type)) = some x) → Flat ks (cs.drop off)
  | [], off, ks, cs, h, hl, _ => by
    simp only [fieldKinds, Option.some.injEq] at h
    subst h
    rw [List.drop_of_length_le (by simp at hl; omega)]
    trivial
  | fd :: fs, off, ks, cs, h, hl, hx => by
    simp only [fieldKinds, Option.bind_eq_some_iff] at h
    obtain ⟨l, h1, h⟩ := h
    split at h
    · rename_i hc
      simp only [Option.map_eq_some_iff] at h
      obtain ⟨l', h2, rfl⟩ := h
      obtain ⟨x, hx0⟩ := hx fd (by simp)
      have f1 := hg _ _ _ _ h1 hx0
      rw [hc.1, hc.2] at f1
      have f2 := flat_fields hg fs (off + l.length) l' cs h2 (by simp at hl; omega) (fun fd' hm => hx fd' (by simp [hm]))
      have e : cs.drop off = (cs.drop off).take l.length ++ cs.drop (off + l.length) := by
        rw [← List.drop_drop, List.take_append_drop]
      rw [e]
      exact f1.append f2
    · cases h

theorem flat_items {l : List CK} : ∀ (n : Nat) (cs : List Value), cs.length = n * l.length → (∀ i, i < n → Flat l ((cs.drop (i * l.length)).take l.length)) → Flat (List.replicate n l).flatten cs
  | 0, cs, hl, _ => by
    have : cs = [] := List.eq_nil_of_length_eq_zero (by simpa using hl)
    subst this
    trivial
  | n + 1, cs, hl, h => by
    have hl' : cs.length = n * l.length + l.length := by rw [hl, Nat.succ_mul]
    rw [List.replicate_succ, List.flatten_cons]
    have e : cs = cs.take l.length ++ cs.drop l.length := (List.take_append_drop _ _).symm
    rw [e]
    refine Flat.append (by simpa using h 0 (by omega)) (flat_items n _ (by simp; omega) fun i hi => ?_)
    have := h (i + 1) (by omega)
    rw [List.drop_drop]
    rw [show l.length + i * l.length = (i + 1) * l.length by rw [Nat.succ_mul]; omega]
    exact this

theorem flat_trod : ∀ (f : Nat) (t : TypeId) (ks : List CK) (fuel : Nat) (cs : List Value) (x : DataW H × List MemPlace),
    kindsOf P f t = some ks → DataW.trod enc P w base spare held fuel t cs = some x → Flat ks cs
  | 0, _, _, _, _, _, h, _ => by simp [kindsOf] at h
  | f + 1, t, ks, fuel, cs, x, h, hx => by
    unfold kindsOf at h
    split at h
    · rename_i ht
      obtain ⟨b, rfl, _⟩ := DataW.trod_bool ht hx
      cases h
      exact ⟨⟨b, rfl⟩, trivial⟩
    · rename_i k ht
      obtain ⟨n, rfl, _, hw⟩ := DataW.trod_int ht hx
      cases h
      exact ⟨⟨n, rfl, hw⟩, trivial⟩
    · rename_i ht
      obtain ⟨s, rfl, _, hs⟩ := DataW.trod_string ht hx
      cases h
      exact ⟨⟨s, rfl, hs⟩, trivial⟩
    · rename_i fs ht
      simp only [Option.bind_eq_some_iff] at h
      obtain ⟨l, h1, h⟩ := h
      split at h
      · rename_i hc
        cases h
        obtain ⟨xs, n, _, _, hlen, hxl, hf⟩ := DataW.trod_struct ht hx
        have := flat_fields (g := kindsOf P f) (n := n) (fun t ks cs x h1 h2 => flat_trod f t ks n cs x h1 h2) fs.toList 0 ks cs h1 (by omega) (fun fd hm => by
          obtain ⟨i, hi, he⟩ := List.getElem_of_mem hm
          have hi' : i < fs.size := by simpa using hi
          have hfs : fs[i]? = some fd := by rw [Array.getElem?_eq_getElem hi', ← he]; simp
          have := hf i fd hfs
          rw [List.getElem?_eq_getElem (by omega)] at this
          exact ⟨_, this⟩)
        simpa using this
      · cases h
    · rename_i n e ht
      simp only [Option.bind_eq_some_iff] at h
      obtain ⟨l, h1, h⟩ := h
      split at h
      · rename_i hc
        cases h
        obtain ⟨xs, m, _, _, hlen, hxl, hf⟩ := DataW.trod_array ht hx
        refine flat_items n cs (by omega) fun i hi => ?_
        have := hf i hi
        rw [List.getElem?_eq_getElem (by omega)] at this
        rw [← hc.1]
        exact flat_trod f e l m _ _ h1 this
      · cases h
    · cases h

/-- A struct or an array of plain data, by value. -/
theorem open_flat {r : Reach} {b0 : Nat} {t : TypeId} {v : Value} {d : DataW H} {p : List MemPlace} {ks : List CK} (f : Nat) (hk : kindsOf P f t = some ks)
    (hagg : (match P.underlying t with | some (.struct _) | some (.array _ _) => true | _ => false) = true)
    (hv : Value.okWide P w r b0 t v) (h : DataW.Trod enc P w base spare held t v d p) : ∃ cs, v = .agg cs ∧ Flat ks cs.toList := by
  obtain ⟨cs, rfl⟩ : ∃ cs, v = .agg cs := by
    unfold Value.okWide at hv
    split at hv
    · obtain ⟨cs, h, _⟩ := hv; exact ⟨cs, h⟩
    · obtain ⟨cs, h, _⟩ := hv; exact ⟨cs, h⟩
    · split at hagg
      · simp_all
      · simp_all
      · cases hagg
  obtain ⟨fuel, hf⟩ := h
  exact ⟨cs, rfl, flat_trod f t ks fuel _ _ hk (by simpa [Value.cells] using hf)⟩

/-- A slice of plain data that came in: its rows, in turn; where they lie; how long it can be. -/
def SliceIn (w : World) (ks : List CK) (bytes : Nat) (a : Option Addr) (len cap : Nat) (L : List (List Value)) : Prop :=
  L.length = len ∧ (∀ row ∈ L, Flat ks row) ∧ len ≤ cap ∧ cap * bytes ≤ 140737488351232 ∧ cap ≤ maxLen ∧
  (len = 0 ∨ ∃ b off, a = some ⟨b, off, none⟩ ∧ b < w.heap.size ∧ ∀ i j row u, L[i]? = some row → row[j]? = some u → w.cell? ⟨b, off + (i * ks.length + j), none⟩ = some u)

theorem open_slice_flat {r : Reach} {b0 : Nat} {t e : TypeId} {v : Value} {d : DataW H} {p : List MemPlace} {ks : List CK} {bytes : Nat} (f : Nat) (ht : P.underlying t = some (.slice e)) (hk : kindsOf P f e = some ks)
    (hC : P.cellsOf e = ks.length) (hpos : 0 < ks.length) (hbytes : P.bytesOf e = bytes) (hv : Value.okWide P w r b0 t v) (h : DataW.Trod enc P w 0 (fun _ => true) held t v d p)
    (hsz : ∀ elems rest, d = .slice elems rest → (elems.length + rest.length) * P.bytesOf e ≤ reachBytes) :
    ∃ a len cap L, v = .slice a len cap ∧ SliceIn w ks bytes a len cap L := by
  obtain ⟨a, len, cap, rfl⟩ := okWide_slice ht hv
  obtain ⟨fuel, hf⟩ := h
  rcases open_slice ht hf with ⟨hcs, _⟩ | ⟨x, l, c, m, n, D, Pl, hcs, _, hl, hm, hmm, hx, hi⟩
  · simp [Value.cells] at hcs
    obtain ⟨rfl, rfl, rfl⟩ := hcs
    exact ⟨none, 0, 0, [], rfl, rfl, by simp, by omega, by omega, by decide, .inl rfl⟩
  · simp [Value.cells] at hcs
    obtain ⟨rfl, rfl, rfl⟩ := hcs
    simp only [if_true] at hmm
    have hmm' := hmm.symm
    subst hmm'
    simp only [Prod.mk.injEq] at hx
    have hs := hsz _ _ hx.1
    simp only [List.length_map, List.length_range, hbytes, reachBytes] at hs
    have hrow : ∀ i, i < len → ∃ row : List Value, Flat ks row ∧ ∀ j u, row[j]? = some u → w.cell? (x.add (i * ks.length + j)) = some u := by
      intro i hil
      obtain ⟨row, hc, hr⟩ := hi i (by omega)
      have hfl := flat_trod f e ks n row _ hk hr
      obtain ⟨_, hcl, hat⟩ := World.cells?_some hc
      refine ⟨row, hfl, fun j u hu => ?_⟩
      have hj : j < P.cellsOf e := by
        rw [← hcl]
        exact (List.getElem?_eq_some_iff.1 hu).1
      have := hat j hj
      rw [Go.Deep.add_add, hC] at this
      rw [this, hu]
    have hL : ∀ n, n ≤ len → ∃ L : List (List Value), L.length = n ∧ ∀ i row, L[i]? = some row → Flat ks row ∧ ∀ j u, row[j]? = some u → w.cell? (x.add (i * ks.length + j)) = some u := by
      intro n
      induction n with
      | zero => intro _; exact ⟨[], rfl, by simp⟩
      | succ n ih =>
        intro hn
        obtain ⟨L, hl1, hl2⟩ := ih (by omega)
        obtain ⟨row, hr⟩ := hrow n (by omega)
        refine ⟨L ++ [row], by simp [hl1], fun i row' hi' => ?_⟩
        rw [List.getElem?_append] at hi'
        split at hi'
        · exact hl2 i row' hi'
        · rename_i hge
          have hi0 : i - L.length = 0 := by
            have := (List.getElem?_eq_some_iff.1 hi').1
            simp at this; omega
          rw [hi0] at hi'
          simp at hi'
          subst hi'
          obtain rfl : i = n := by omega
          exact hr
    obtain ⟨L, hl1, hl2⟩ := hL len (Nat.le_refl _)
    refine ⟨some x, len, cap, L, rfl, hl1, fun row hr => ?_, hl, ?_, hm, ?_⟩
    · obtain ⟨i, hi', he⟩ := List.getElem_of_mem hr
      exact (hl2 i row (by rw [List.getElem?_eq_getElem hi', he])).1
    · have : len + (cap - len) = cap := by omega
      rw [this] at hs
      exact hs
    · by_cases h0 : len = 0
      · exact .inl h0
      · right
        obtain ⟨b, off, spot⟩ := x
        have h00 : L[0]? = some (L[0]'(by omega)) := List.getElem?_eq_getElem (by omega)
        obtain ⟨hf0, hc0⟩ := hl2 0 _ h00
        have hl0 := hf0.length
        have hu0 : (L[0]'(by omega))[0]? = some ((L[0]'(by omega))[0]'(by omega)) := List.getElem?_eq_getElem (by omega)
        have hcell := hc0 0 _ hu0
        have hspot : spot = none := by simpa [Addr.add] using World.cell?_spot hcell
        subst hspot
        have hlt := World.block_lt_of_cell? _ _ hcell
        refine ⟨b, off, rfl, by simpa [Addr.add] using hlt, fun i j row u h1 h2 => ?_⟩
        have := (hl2 i row h1).2 j u h2
        rwa [Go.WideShapes.add_plain] at this

theorem SliceIn.later {w' : World} {ks : List CK} {bytes : Nat} {a : Option Addr} {len cap : Nat} {L : List (List Value)} (h : SliceIn w ks bytes a len cap L) (hb : Below w.heap.size w w') : SliceIn w' ks bytes a len cap L := by
  obtain ⟨h1, h2, h3, h4, h5, h6⟩ := h
  refine ⟨h1, h2, h3, h4, h5, ?_⟩
  rcases h6 with h6 | ⟨b, off, e, hlt, hc⟩
  · exact .inl h6
  · exact .inr ⟨b, off, e, Nat.lt_of_lt_of_le hlt hb.size, fun i j row u x y => cell_later hb (hc i j row u x y)⟩
/-- A slice of integers of one kind, as the list of them. -/
theorem SliceIn.ints {k : IntKind} {bytes : Nat} {a : Option Addr} {len cap : Nat} {L : List (List Value)} (h : SliceIn w [.int k] bytes a len cap L) :
    ∃ zs : List Int, zs.length = len ∧ (∀ n ∈ zs, (Lit.int k n).wf = true) ∧ len ≤ cap ∧ cap * bytes ≤ 140737488351232 ∧ cap ≤ maxLen ∧
      (len = 0 ∨ ∃ b off, a = some ⟨b, off, none⟩ ∧ b < w.heap.size ∧ ∀ j, j < zs.length → w.cell? ⟨b, off + j, none⟩ = some (.int k (zs.getD j 0))) := by
  obtain ⟨h1, h2, h3, h4, h5, h6⟩ := h
  have hz : ∀ M : List (List Value), (∀ row ∈ M, Flat [.int k] row) → ∃ zs : List Int, M = zs.map (fun z => [.int k z]) ∧ ∀ n ∈ zs, (Lit.int k n).wf = true := by
    intro M
    induction M with
    | nil => intro _; exact ⟨[], rfl, by simp⟩
    | cons row M ih =>
      intro hM
      obtain ⟨zs, e, hz⟩ := ih (fun r hr => hM r (by simp [hr]))
      have := hM row (by simp)
      match row, this with
      | [v], ⟨⟨n, hv, hw⟩, _⟩ =>
        subst hv
        exact ⟨n :: zs, by simp [e], by intro m hm; rcases List.mem_cons.1 hm with rfl | hm; exact hw; exact hz m hm⟩
  obtain ⟨zs, rfl, hw⟩ := hz L h2
  refine ⟨zs, by simpa using h1, hw, h3, h4, h5, ?_⟩
  rcases h6 with h6 | ⟨b, off, e, hlt, hc⟩
  · exact .inl h6
  · refine .inr ⟨b, off, e, hlt, fun j hj => ?_⟩
    have := hc j 0 [.int k (zs.getD j 0)] (.int k (zs.getD j 0)) (by simp [hj]) rfl
    simpa using this
end
/-- A slice whose first cells, up to its length at least, hold the numbers zs. -/
def Row (k : IntKind) (w : World) (a : Option Addr) (len : Nat) (zs : List Int) : Prop :=
  len ≤ zs.length ∧ len ≤ maxLen ∧ (len = 0 ∨ ∃ b off, a = some ⟨b, off, none⟩ ∧ ∀ j, j < zs.length → w.cell? ⟨b, off + j, none⟩ = some (.int k (zs.getD j 0))) ∧ ∀ n ∈ zs, (Lit.int k n).wf = true
theorem SliceIn.row {w : World} {k : IntKind} {bytes : Nat} {a : Option Addr} {len cap : Nat} {L : List (List Value)} (h : SliceIn w [.int k] bytes a len cap L) : ∃ zs : List Int, zs.length = len ∧ Row k w a len zs := by
  obtain ⟨zs, h1, h2, h3, _, h5, h6⟩ := h.ints
  refine ⟨zs, h1, by omega, by omega, ?_, h2⟩
  rcases h6 with h6 | ⟨b, off, e, _, hc⟩
  · exact .inl h6
  · exact .inr ⟨b, off, e, hc⟩
theorem wf_getD {k : IntKind} {zs : List Int} (h : ∀ n ∈ zs, (Lit.int k n).wf = true) {j : Nat} (hj : j < zs.length) : (Lit.int k (zs.getD j 0)).wf = true := by
  rw [List.getD_eq_getElem?_getD, List.getElem?_eq_getElem hj]
  exact h _ (List.getElem_mem hj)
theorem Row.later {k : IntKind} {w w' : World} {a : Option Addr} {len : Nat} {zs : List Int} (h : Row k w a len zs) (hb : Below w.heap.size w w') : Row k w' a len zs := by
  obtain ⟨hz, hm, hc, hwf⟩ := h
  refine ⟨hz, hm, ?_, hwf⟩
  rcases hc with hc | ⟨b, off, rfl, hc⟩
  · exact .inl hc
  · exact .inr ⟨b, off, rfl, fun j hj => cell_later hb (hc j hj)⟩
theorem wf_u64 {n : Int} (h : (Lit.int .u64 n).wf = true) : 0 ≤ n ∧ n ≤ 18446744073709551615 := by
  have := bounds_u64 h
  omega
theorem Flat.two {k k' : IntKind} {c : Array Value} (h : Flat [.int k, .int k'] c.toList) : ∃ x y, c = #[.int k x, .int k' y] ∧ (Lit.int k x).wf = true ∧ (Lit.int k' y).wf = true := by
  obtain ⟨l⟩ := c
  match l, h with
  | [_, _], ⟨⟨x, e0, u0⟩, ⟨y, e1, u1⟩, _⟩ =>
    subst e0 e1
    exact ⟨x, y, rfl, u0, u1⟩
end Go.Proofs.YtgnccpmkdgfjeaaGreat

namespace Go.Proofs.YtgnccpmkdgfjeaaGreat
set_option linter.unusedVariables false
open Go.ChangeShapes Go.WideShapes Go.ChangeAt Go.RowKit

/-- Two worlds that part in draws alone. -/
structure Ali (X w' : World) : Prop where
  heap : w'.heap = X.heap
  os : w'.os = X.os
  tape : w'.tape = X.tape
  output : w'.output = X.output
theorem Ali.refl (w : World) : Ali w w := ⟨rfl, rfl, rfl, rfl⟩
theorem Ali.trans {a b c : World} (h : Ali a b) (k : Ali b c) : Ali a c := ⟨k.heap.trans h.heap, k.os.trans h.os, k.tape.trans h.tape, k.output.trans h.output⟩

/-! ### worlds -/
theorem heap_set_same {w : World} {g o : Nat} {t : TypeId} {cs : Array Value} {f : Nat × Nat} (h : w.heap[g]? = some (.cells cs t f)) (u : Value) : (w.setCell ⟨g, o, none⟩ u).heap[g]? = some (.cells (cs.setIfInBounds o u) t f) := by
  simp [World.setCell, Array.getElem?_modify, h]
theorem heap_set_other {w : World} {p : Addr} {k : Nat} (h : k ≠ p.block) (u : Value) : (w.setCell p u).heap[k]? = w.heap[k]? := Below.heap_setCell w p u k h
theorem heap_set_size (w : World) (p : Addr) (u : Value) : (w.setCell p u).heap.size = w.heap.size := by simp [World.setCell]
theorem heap_alloc_lt {w : World} {o : Obj} {k : Nat} (h : k < w.heap.size) : (w.alloc o).heap[k]? = w.heap[k]? := Below.heap_alloc w o k h
theorem heap_alloc_at (w : World) (o : Obj) : (w.alloc o).heap[w.heap.size]? = some o := by
  show (w.heap.push o)[w.heap.size]? = _
  simp
theorem heap_lt {w : World} {k : Nat} {o : Obj} (h : w.heap[k]? = some o) : k < w.heap.size := (Array.getElem?_eq_some_iff.1 h).1
theorem cell_of {w : World} {g : Nat} {t : TypeId} {cs : Array Value} {f : Nat × Nat} (h : w.heap[g]? = some (.cells cs t f)) (o : Nat) : w.cell? ⟨g, o, none⟩ = cs[o]? := by simp [World.cell?, h]
theorem frozen_of {w : World} {g : Nat} {t : TypeId} {cs : Array Value} (h : w.heap[g]? = some (.cells cs t (0, 0))) (o : Nat) : w.frozen? ⟨g, o, none⟩ = false := by simp [World.frozen?, h]

/-- Of the blocks that were there none has turned but those of F. -/
structure Frm (F : Nat → Prop) (w w' : World) : Prop where
  os : w'.os = w.os
  tape : w'.tape = w.tape
  output : w'.output = w.output
  size : w.heap.size ≤ w'.heap.size
  block : ∀ j, j < w.heap.size → ¬ F j → w'.heap[j]? = w.heap[j]?
theorem Frm.refl (F : Nat → Prop) (w : World) : Frm F w w := ⟨rfl, rfl, rfl, Nat.le_refl _, fun _ _ _ => rfl⟩
theorem Frm.trans {F F' : Nat → Prop} {a b c : World} (h : Frm F a b) (k : Frm F' b c) (hF : ∀ j, j < a.heap.size → F' j → F j) : Frm F a c :=
  ⟨k.os.trans h.os, k.tape.trans h.tape, k.output.trans h.output, Nat.le_trans h.size k.size, fun j hj hn => (k.block j (Nat.lt_of_lt_of_le hj h.size) (fun hf => hn (hF j hj hf))).trans (h.block j hj hn)⟩
theorem Frm.mono {F F' : Nat → Prop} {a b : World} (h : Frm F a b) (hF : ∀ j, j < a.heap.size → F j → F' j) : Frm F' a b :=
  ⟨h.os, h.tape, h.output, h.size, fun j hj hn => h.block j hj (fun hf => hn (hF j hj hf))⟩
theorem Frm.ali {F : Nat → Prop} {a b c : World} (h : Frm F a b) (k : Ali b c) : Frm F a c :=
  ⟨k.os.trans h.os, k.tape.trans h.tape, k.output.trans h.output, by rw [k.heap]; exact h.size, fun j hj hn => by rw [k.heap]; exact h.block j hj hn⟩
theorem Frm.set {F : Nat → Prop} {a w : World} (h : Frm F a w) {p : Addr} (hp : F p.block) (u : Value) : Frm F a (w.setCell p u) :=
  ⟨h.os, h.tape, h.output, by rw [heap_set_size]; exact h.size, fun j hj hn => by rw [heap_set_other (fun e => hn (by rw [e]; exact hp))]; exact h.block j hj hn⟩
theorem Frm.alloc {F : Nat → Prop} {a w : World} (h : Frm F a w) (o : Obj) : Frm F a (w.alloc o) :=
  ⟨h.os, h.tape, h.output, by have := h.size; simp; omega, fun j hj hn => by rw [heap_alloc_lt (Nat.lt_of_lt_of_le hj h.size)]; exact h.block j hj hn⟩
theorem Frm.below {F : Nat → Prop} {w w' : World} (h : Frm F w w') {B : Nat} (hB : B ≤ w.heap.size) (hF : ∀ j, j < B → ¬ F j) : Below B w w' :=
  ⟨h.os, h.tape, h.output, h.size, fun j hj => h.block j (by omega) (hF j hj)⟩
theorem Frm.of_below {F : Nat → Prop} {w w' : World} (h : Below w.heap.size w w') : Frm F w w' := ⟨h.os, h.tape, h.output, h.size, fun j hj _ => h.block j hj⟩
theorem Frm.of_grown {F : Nat → Prop} {w w' : World} {m : Nat} (h : w.grownBy w' (some m)) (hm : F m) : Frm F w w' :=
  ⟨h.os, h.tape, h.output, h.size, fun j hj hn => h.block j hj (fun e => hn (by injection e with e; rw [e]; exact hm))⟩

theorem below_alloc (w : World) (o : Obj) : Below w.heap.size w (w.alloc o) := (Below.refl _ _).alloc (Nat.le_refl _) o
theorem below_drewN {B : Nat} {a w : World} (h : Below B a w) (n : Nat) : Below B a (w.drewN n) := ⟨h.os, h.tape, h.output, h.size, h.block⟩

def wf64 (k : Int) : Prop := -9223372036854775808 ≤ k ∧ k ≤ 9223372036854775807
theorem wf64.lit {k : Int} (h : wf64 k) : (Lit.int .i64 k).wf = true := WalkArith.wf_i64 h

theorem wf64_lit {k : Int} (h : -9223372036854775808 ≤ k) (h' : k ≤ 9223372036854775807) : wf64 k := ⟨h, h'⟩

theorem cell_lt {w : World} {a : Addr} {v : Value} (h : w.cell? a = some v) : a.block < w.heap.size := by
  unfold World.cell? at h
  split at h
  · rename_i hh
    exact heap_lt hh
  · cases h
theorem cell_alloc {w : World} {a : Addr} {v : Value} (h : w.cell? a = some v) (o : Obj) : (w.alloc o).cell? a = some v := (World.cell?_of_block (w := w) (heap_alloc_lt (cell_lt h))).trans h

theorem below_ali {B : Nat} {a w w' : World} (h : Below B a w) (k : Ali w w') : Below B a w' := ⟨k.os.trans h.os, k.tape.trans h.tape, k.output.trans h.output, by rw [k.heap]; exact h.size, fun j hj => by rw [k.heap]; exact h.block j hj⟩

theorem kb_below {w w' : World} {j : Nat} {o : Obj} (h : w.heap[j]? = some o) (hb : Below w.heap.size w w') : w'.heap[j]? = some o := (hb.block j (heap_lt h)).trans h
theorem kb_alloc {w : World} {j : Nat} {o : Obj} (h : w.heap[j]? = some o) (o' : Obj) : (w.alloc o').heap[j]? = some o := (heap_alloc_lt (heap_lt h)).trans h
theorem drew_ali (w : World) : Ali w w.drew := ⟨rfl, rfl, rfl, rfl⟩
theorem Frm.fresh {F : Nat → Prop} {a w : World} (h : Frm F a w) {g : Nat} (hg : a.heap.size ≤ g) (o o' : Nat) (u u' : Value) : Frm F a ((w.setCell ⟨g, o, none⟩ u).setCell ⟨g, o', none⟩ u') :=
  ⟨h.os, h.tape, h.output, by rw [heap_set_size, heap_set_size]; exact h.size, fun j hj hn => by rw [heap_set_other (show j ≠ g by omega), heap_set_other (show j ≠ g by omega)]; exact h.block j hj hn⟩
theorem Frm.then_below {F : Nat → Prop} {a w w' : World} (h : Frm F a w) (hb : Below w.heap.size w w') : Frm F a w' := h.trans (Frm.of_below (F := F) hb) (fun _ _ h => h)
theorem set_keep {w : World} {g j : Nat} (h : j ≠ g) (o o' : Nat) (u u' : Value) : ((w.setCell ⟨g, o, none⟩ u).setCell ⟨g, o', none⟩ u').heap[j]? = w.heap[j]? := by rw [heap_set_other h, heap_set_other h]
theorem Frm.of_ali {F : Nat → Prop} {w w' : World} (h : Ali w w') : Frm F w w' := (Frm.refl F w).ali h
theorem drewN_ali (w : World) (n : Nat) : Ali w (w.drewN n) := ⟨rfl, rfl, rfl, rfl⟩
theorem ali_below {w w' : World} (h : Ali w w') : Below w.heap.size w w' := below_ali (Below.refl _ _) h
end Go.Proofs.YtgnccpmkdgfjeaaGreat

namespace Go.Proofs.YtgnccpmkdgfjeaaGreat
set_option linter.unusedVariables false
open Go.ChangeShapes Go.WideShapes Go.ChangeAt Go.RowKit

/-- Records of one kind, each as a row of plain cells. -/
structure Rec (α : Type) where
  cells : α → List Value
  size : Nat
  pos : 0 < size
  len : ∀ a, (cells a).length = size
  one : ∀ a, ∀ u ∈ cells a, u.oneCell' = true
section
variable {α : Type} (R : Rec α)
def Rec.flat : List α → List Value
  | [] => []
  | a :: V => R.cells a ++ Rec.flat V
theorem Rec.flat_length : ∀ V, (R.flat V).length = V.length * R.size
  | [] => by simp [Rec.flat]
  | a :: V => by rw [Rec.flat, List.length_append, R.len, Rec.flat_length V, List.length_cons, Nat.succ_mul, Nat.add_comm]
theorem Rec.flat_append : ∀ U V, R.flat (U ++ V) = R.flat U ++ R.flat V
  | [], V => rfl
  | a :: U, V => by rw [List.cons_append, Rec.flat, Rec.flat, Rec.flat_append U V, List.append_assoc]
theorem Rec.flat_one : ∀ V, ∀ u ∈ R.flat V, u.oneCell' = true
  | a :: V, u, h => by
    rw [Rec.flat] at h
    rcases List.mem_append.1 h with h | h
    · exact R.one a u h
    · exact Rec.flat_one V u h
theorem Rec.flat_at : ∀ {V : List α} {i k : Nat} {a : α} {u : Value}, V[i]? = some a → (R.cells a)[k]? = some u → (R.flat V)[i * R.size + k]? = some u
  | x :: V, 0, k, a, u, h, hu => by
    obtain rfl : x = a := by simpa using h
    rw [Rec.flat, Nat.zero_mul, Nat.zero_add, List.getElem?_append_left (List.getElem?_eq_some_iff.1 hu).1]
    exact hu
  | x :: V, i + 1, k, a, u, h, hu => by
    have h' : V[i]? = some a := by simpa using h
    have ih := Rec.flat_at h' hu
    rw [Rec.flat, List.getElem?_append_right (by rw [R.len, Nat.succ_mul]; omega), R.len, show (i + 1) * R.size + k - R.size = i * R.size + k by rw [Nat.succ_mul]; omega]
    exact ih
  | [], i, k, a, u, h, _ => by simp at h

/-- A slice that reads as the records V. -/
def RowR (w : World) (A : Option Addr) (len : Nat) (V : List α) : Prop :=
  V.length = len ∧ len ≤ maxLen ∧ (len = 0 ∨ ∃ b off, A = some ⟨b, off, none⟩ ∧ b < w.heap.size ∧ ∀ j u, (R.flat V)[j]? = some u → w.cell? ⟨b, off + j, none⟩ = some u)
/-- A slice of records that was made since the world had 'base' blocks. -/
def OwnR (w : World) (base : Nat) (e : TypeId) (v : Value) (V : List α) : Prop := w.ownsRow base e R.size v V.length (R.flat V) ∧ V.length ≤ maxLen
end
section
variable {α : Type} {R : Rec α} {w w' : World} {base : Nat} {e t : TypeId} {v : Value} {V U : List α} {A : Option Addr} {n m c : Nat}

theorem RowR.length (h : RowR R w A n V) : V.length = n := h.1
theorem RowR.nil (A : Option Addr) : RowR R w A 0 ([] : List α) := ⟨rfl, by decide, .inl rfl⟩
theorem RowR.frm {F : Nat → Prop} (h : RowR R w A n V) (hf : Frm F w w') (hF : ∀ b off, A = some ⟨b, off, none⟩ → ¬ F b) : RowR R w' A n V := by
  obtain ⟨h1, h2, h3⟩ := h
  refine ⟨h1, h2, ?_⟩
  rcases h3 with h0 | ⟨b, off, rfl, hlt, hc⟩
  · exact .inl h0
  · exact .inr ⟨b, off, rfl, Nat.lt_of_lt_of_le hlt hf.size, fun j u hu => (World.cell?_of_block (w := w) (hf.block b hlt (hF b off rfl))).trans (hc j u hu)⟩
theorem RowR.later (h : RowR R w A n V) (hb : Below w.heap.size w w') : RowR R w' A n V := h.frm (F := fun _ => False) (Frm.of_below hb) (fun _ _ _ => id)
theorem RowR.ali (h : RowR R w A n V) (ha : Ali w w') : RowR R w' A n V := h.later (ali_below ha)
theorem RowR.at_ (h : RowR R w A n V) {i : Nat} (hi : i < n) : ∃ b off a, A = some ⟨b, off, none⟩ ∧ V[i]? = some a ∧ b < w.heap.size ∧ ∀ k u, (R.cells a)[k]? = some u → w.cell? ⟨b, off + i * R.size + k, none⟩ = some u := by
  rcases h.2.2 with h0 | ⟨b, off, hA, hlt, hc⟩
  · omega
  · have hV : V[i]? = some (V[i]'(by rw [h.1]; exact hi)) := List.getElem?_eq_getElem _
    exact ⟨b, off, _, hA, hV, hlt, fun k u hu => by rw [Nat.add_assoc]; exact hc _ u (R.flat_at hV hu)⟩
theorem RowR.take (h : RowR R w A n (U ++ V)) (hm : U.length = m) : RowR R w A m U := by
  obtain ⟨h1, h2, h3⟩ := h
  rw [List.length_append] at h1
  refine ⟨hm, by omega, ?_⟩
  rcases h3 with h0 | ⟨b, off, hA, hlt, hc⟩
  · exact .inl (by omega)
  · exact .inr ⟨b, off, hA, hlt, fun j u hu => hc j u (by rw [R.flat_append, List.getElem?_append_left (List.getElem?_eq_some_iff.1 hu).1]; exact hu)⟩
theorem RowR.drop {b off : Nat} (h : RowR R w (some ⟨b, off, none⟩) n (U ++ V)) (hU : U.length = m) (hc : n ≤ c) {k : Nat} (hk : n = m + k) : RowR R w (if c = m then some ⟨b, off, none⟩ else some ⟨b, off + m * R.size, none⟩) k V := by
  obtain ⟨h1, h2, h3⟩ := h
  rw [List.length_append] at h1
  refine ⟨by omega, by omega, ?_⟩
  by_cases h0 : k = 0
  · exact .inl h0
  · rw [if_neg (by omega)]
    rcases h3 with h3 | ⟨b', off', e, hlt, hcs⟩
    · omega
    · injection e with e
      injection e with e1 e2
      subst e1 e2
      refine .inr ⟨b, off + m * R.size, rfl, hlt, fun j u hu => ?_⟩
      have hl := R.flat_length U
      rw [hU] at hl
      rw [Nat.add_assoc]
      refine hcs (m * R.size + j) u ?_
      rw [R.flat_append, List.getElem?_append_right (by omega), hl, Nat.add_sub_cancel_left]
      exact hu
/-- A new block with all of its records. -/
theorem RowR.new (w : World) (V : List α) (e : TypeId) {cs : Array Value} (hcs : cs.toList = R.flat V) (hn : V.length = n) (hm : n ≤ maxLen) : RowR R (w.alloc (.cells cs e)) (some ⟨w.heap.size, 0, none⟩) n V := by
  refine ⟨hn, hm, .inr ⟨w.heap.size, 0, rfl, by simp, fun j u hu => ?_⟩⟩
  rw [cell_of (heap_alloc_at w _), Nat.zero_add, ← Array.getElem?_toList, hcs]
  exact hu
theorem RowR.one (w : World) (a : α) (e : TypeId) {cs : Array Value} (hcs : cs.toList = R.cells a) : RowR R (w.alloc (.cells cs e)) (some ⟨w.heap.size, 0, none⟩) 1 [a] := RowR.new w [a] e (by rw [hcs, Rec.flat, Rec.flat, List.append_nil]) rfl (by decide)

theorem OwnR.nil (w : World) (base : Nat) (e : TypeId) : OwnR R w base e (.slice none 0 0) ([] : List α) := ⟨World.ownsRow_nil _ _ _ _, by simp⟩
theorem OwnR.empty (w : World) (e : TypeId) (hb : base ≤ w.heap.size) : OwnR R (w.alloc (.cells #[] e)) base e (.slice (some ⟨w.heap.size, 0, none⟩) 0 0) ([] : List α) := ⟨World.ownsRow_made w #[] 0 hb (by decide) (by simp), by simp⟩
theorem OwnR.row' (h : OwnR R w base e v V) : ∃ A n c, v = .slice A n c ∧ RowR R w A n V ∧ Hid (V.length = n) ∧ n ≤ c ∧ c ≤ maxLen := by
  rcases h.1.2 with ⟨rfl, h0⟩ | ⟨g, cap, cur, rfl, hb, hg, hnc, hcm, hcs, htake⟩
  · exact ⟨none, 0, 0, rfl, ⟨h0, by decide, .inl rfl⟩, Lib.hid h0, Nat.le_refl _, by decide⟩
  · refine ⟨_, _, cap, rfl, ⟨rfl, h.2, .inr ⟨g, 0, rfl, heap_lt hg, fun j u hu => ?_⟩⟩, Lib.hid rfl, hnc, hcm⟩
    have hj := (List.getElem?_eq_some_iff.1 hu).1
    rw [R.flat_length] at hj
    rw [← htake, List.getElem?_take_of_lt hj] at hu
    rw [cell_of hg]
    simpa using hu
theorem OwnR.row (h : OwnR R w base e (.slice A n c) V) : RowR R w A n V ∧ n ≤ c ∧ c ≤ maxLen := by
  obtain ⟨A', n', c', e, h1, h2, h3, h4⟩ := h.row'
  injection e with e1 e2 e3
  subst e1 e2 e3
  exact ⟨h1, h3, h4⟩
theorem OwnR.block (h : OwnR R w base e v V) {g : Nat} (hg : v.ownBlock = some g) : ∃ cs, w.heap[g]? = some (.cells cs e (0, 0)) := by
  rcases h.1.2 with ⟨rfl, _⟩ | ⟨g', cap, cur, rfl, _, hh, _⟩
  · cases hg
  · cases hg
    exact ⟨cur, hh⟩
theorem OwnR.frm {F : Nat → Prop} (h : OwnR R w base e v V) (hf : Frm F w w') (hF : ∀ j, F j → ∀ cs, w.heap[j]? ≠ some (.cells cs e (0, 0))) : OwnR R w' base e v V := by
  refine ⟨⟨h.1.1, ?_⟩, h.2⟩
  rcases h.1.2 with h0 | ⟨g, cap, cur, hv, hb, hh, hr⟩
  · exact .inl h0
  · exact .inr ⟨g, cap, cur, hv, hb, by rw [hf.block g (heap_lt hh) (fun hc => hF g hc cur hh)]; exact hh, hr⟩
theorem OwnR.below (h : OwnR R w base e v V) (hb : Below w.heap.size w w') : OwnR R w' base e v V := h.frm (F := fun _ => False) (Frm.of_below hb) (fun _ hc => hc.elim)
theorem OwnR.ali (h : OwnR R w base e v V) (ha : Ali w w') : OwnR R w' base e v V := h.below (ali_below ha)
theorem OwnR.alloc (h : OwnR R w base e v V) (o : Obj) : OwnR R (w.alloc o) base e v V := h.below (below_alloc w o)
theorem OwnR.mono (h : OwnR R w base e v V) {base' : Nat} (hb : base' ≤ base) : OwnR R w base' e v V := by
  refine ⟨⟨h.1.1, ?_⟩, h.2⟩
  rcases h.1.2 with h0 | ⟨g, cap, cur, hv, hb', hr⟩
  · exact .inl h0
  · exact .inr ⟨g, cap, cur, hv, by omega, hr⟩
theorem OwnR.low (h : OwnR R w base e v V) : ∀ g, v.ownBlock = some g → base ≤ g := fun g hg => (h.1.lt g hg).1

variable {P : Program}
/-- append, run: onto records of the call's own, of any that are read. -/
theorem run_appR {i : TypeInfo} {z : Value} {bytes : Nat} {ty : TypeId} (ht : P.underlying t = some (.slice e)) (hi : P.info? e = some i) (hz : i.zero = some z) (hs : i.size = R.size) (hb : i.bytes = bytes) (hc : z.cells.size = R.size)
    (own : OwnR R w base e v V) (src : RowR R w A m U) (hle : V.length + m ≤ 1048576) (hby : bytes ≤ 65536) (hbase : base ≤ w.heap.size) :
    ∃ v' w', (Builtin.append_ #[t, t] ty #[v, .slice A m c]).run P w = .ok v' w' ∧ OwnR R w' base e v' (V ++ U) ∧ w.grownBy w' v.ownBlock ∧ (v'.ownBlock = v.ownBlock ∨ v'.ownBlock = some w.heap.size) := by
  have hmax : (V ++ U).length ≤ maxLen := by rw [List.length_append, src.1]; unfold maxLen; omega
  by_cases hm : m = 0
  · subst hm
    have hU : U = [] := List.eq_nil_of_length_eq_zero src.1
    subst hU
    refine ⟨v, w, ?_, by simpa using own, ⟨rfl, rfl, rfl, Nat.le_refl _, fun _ _ _ => rfl⟩, .inl rfl⟩
    rcases own.1.2 with ⟨rfl, h0⟩ | ⟨g, cap, cur, rfl, _, _, hnc, _⟩
    · cases A <;> simp [Builtin.append_, run_underlying ht, sizeOf, typeInfo, hi, Builtin.lenOf, Builtin.firstCells, loadCells, loadCellsFrom]
    · cases A <;> simp [Builtin.append_, run_underlying ht, sizeOf, typeInfo, hi, Builtin.lenOf, Builtin.firstCells, hnc, storeCells, loadCells, loadCellsFrom]
  · rcases src.2.2 with h0 | ⟨b, off, rfl, hlt, hcs⟩
    · omega
    · have hbig : (V.length + m) * bytes ≤ 140737488355328 := by
        have := Nat.mul_le_mul hle hby
        omega
      obtain ⟨v', w', hr, h2, h3, _, h5⟩ := run_append_own_at (P := P) w base t ty e i z R.size bytes ht hi hz hs hb hc R.pos v V.length (R.flat V) own.1 ⟨b, off, none⟩ m c (R.flat U) (by rw [R.flat_length, src.1])
        (fun j u hu => by rw [add_plain]; exact hcs j u hu) (R.flat_one U) (by unfold maxLen; omega) hbig hbase
      refine ⟨v', w', hr, ⟨?_, hmax⟩, h3, h5⟩
      rw [List.length_append, src.1, R.flat_append]
      exact h2
/-- append in a straight walk. -/
theorem wpList_appR {ops : Array Oper} {rest : List Oper} {o : Oper} {a : Act} {Q : Exit → Act → World → Prop} (hg : o.guard = none) (s x : Operand)
    (ho : o.op = .call { callee := .builtin .append, args := #[s, x], argTypes := #[t, t] }) {i : TypeInfo} {z : Value} {bytes : Nat} (ht : P.underlying t = some (.slice e)) (hi : P.info? e = some i) (hz : i.zero = some z) (hs : i.size = R.size) (hb : i.bytes = bytes) (hc : z.cells.size = R.size) (hby : bytes ≤ 65536)
    (hsv : a.eval s = v) (hxv : a.eval x = .slice A m c) (own : OwnR R w base e v V) (src : RowR R w A m U) (hle : V.length + m ≤ 1048576) (hbase : base ≤ w.heap.size)
    (h : ∀ v' w', OwnR R w' base e v' (V ++ U) → w.grownBy w' v.ownBlock → (v'.ownBlock = v.ownBlock ∨ v'.ownBlock = some w.heap.size) → wpList P ops Q rest (a.put o.dst v') w') : wpList P ops Q (o :: rest) a w := by
  refine wpList_plain hg fun _ hK => ?_
  obtain ⟨v', w', hr, h2, h3, h4⟩ := run_appR (ty := o.type) (c := c) ht hi hz hs hb hc own src hle hby hbase
  unfold Oper.wp execOp
  simp only [ho, resolve, invoke, builtin, Sem.run_bind, Sem.run_pure, Result.andThen_ok, List.map_toArray, List.map_cons, List.map_nil, hsv, hxv, hr]
  exact hK _ _ (h v' w' h2 h3 h4)
/-- append as one step of a region that draws its order. -/
theorem appR_step {ops : Array Oper} {o : Oper} {a : Act} {K : Act → World → Prop} {Q : Exit → Act → World → Prop} {E : Prop} (hg : o.guard = none) (s x : Operand)
    (ho : o.op = .call { callee := .builtin .append, args := #[s, x], argTypes := #[t, t] }) {i : TypeInfo} {z : Value} {bytes : Nat} (ht : P.underlying t = some (.slice e)) (hi : P.info? e = some i) (hz : i.zero = some z) (hs : i.size = R.size) (hb : i.bytes = bytes) (hc : z.cells.size = R.size) (hby : bytes ≤ 65536)
    (hsv : a.eval s = v) (hxv : a.eval x = .slice A m c) (own : OwnR R w base e v V) (src : RowR R w A m U) (hle : V.length + m ≤ 1048576) (hbase : base ≤ w.heap.size)
    (h : ∀ v' w', OwnR R w' base e v' (V ++ U) → w.grownBy w' v.ownBlock → (v'.ownBlock = v.ownBlock ∨ v'.ownBlock = some w.heap.size) → K (a.put o.dst v') w') :
    if Region.wanted o (yielded ops a.tmps) = true then Oper.wp P o a w K Q else E := by
  rw [if_pos (show Region.wanted o (yielded ops a.tmps) = true by simp [Region.wanted, hg])]
  obtain ⟨v', w', hr, h2, h3, h4⟩ := run_appR (ty := o.type) (c := c) ht hi hz hs hb hc own src hle hby hbase
  unfold Oper.wp execOp
  simp only [ho, resolve, invoke, builtin, Sem.run_bind, Sem.run_pure, Result.andThen_ok, List.map_toArray, List.map_cons, List.map_nil, hsv, hxv, hr]
  exact h v' w' h2 h3 h4
end
/-- Records of two integers. -/
def rec2 (k k' : IntKind) : Rec (Int × Int) := ⟨fun a => [.int k a.1, .int k' a.2], 2, by decide, fun _ => rfl, fun a u hu => by simp at hu; rcases hu with rfl | rfl <;> rfl⟩
end Go.Proofs.YtgnccpmkdgfjeaaGreat

namespace Go.Proofs.YtgnccpmkdgfjeaaGreat
set_option linter.unusedVariables false
open Go.ChangeShapes Go.WideShapes Go.ChangeAt Go.RowKit

section
variable {α : Type} {R : Rec α} {w : World} {A : Option Addr} {n c k : Nat} {V : List α} {P : Program} {t e : TypeId} {kd : IntKind}
theorem run_slice_drop (ht : P.underlying t = some (.slice e)) (hs : ∀ w, (sizeOf e).run P w = .ok R.size w) (hr : RowR R w A n V) (hnc : n ≤ c) (hk : k ≤ n) :
    ∃ A', (∀ w', (Instr.sliceAt t (.slice A n c) (some (.int kd k)) none none).run P w' = .ok (.slice A' (n - k) (c - k)) w') ∧ RowR R w A' (n - k) (V.drop k) := by
  have e1 : ∀ w', (Instr.sliceAt t (.slice A n c) (some (.int kd k)) none none).run P w' = .ok (.slice (if c = k then A else A.map (·.add (k * R.size))) (n - k) (c - k)) w' := by
    intro w'
    simp [Instr.sliceAt, Instr.slice, Instr.sliceBounds, Instr.sliceBound, run_underlying ht, hs, asIntOf]
    omega
  refine ⟨_, e1, ?_⟩
  by_cases h0 : n = 0
  · have hl := hr.1
    have : V = [] := List.eq_nil_of_length_eq_zero (by omega)
    subst this
    have e2 : n - k = 0 := by omega
    rw [e2, List.drop_nil]
    exact RowR.nil _
  · rcases hr.2.2 with h | ⟨b, off, rfl, hlt, hc⟩
    · exact absurd h h0
    · have := RowR.drop (R := R) (U := V.take k) (V := V.drop k) (m := k) (k := n - k) (by rw [List.take_append_drop]; exact hr) (by rw [List.length_take, hr.1]; omega) hnc (by omega)
      simpa [add_plain] using this
theorem run_slice_take (ht : P.underlying t = some (.slice e)) (hs : ∀ w, (sizeOf e).run P w = .ok R.size w) (hr : RowR R w A n V) (hnc : n ≤ c) (hk : k ≤ n) :
    ∃ A', (∀ w', (Instr.sliceAt t (.slice A n c) none (some (.int kd k)) none).run P w' = .ok (.slice A' k c) w') ∧ RowR R w A' k (V.take k) := by
  have e1 : ∀ w', (Instr.sliceAt t (.slice A n c) none (some (.int kd k)) none).run P w' = .ok (.slice (if c = 0 then A else A.map (·.add (0 * R.size))) k c) w' := by
    intro w'
    simp [Instr.sliceAt, Instr.slice, Instr.sliceBounds, Instr.sliceBound, run_underlying ht, hs, asIntOf]
    omega
  refine ⟨_, e1, ?_⟩
  by_cases h0 : n = 0
  · have : V = [] := List.eq_nil_of_length_eq_zero (by have := hr.1; omega)
    subst this
    have e2 : k = 0 := by omega
    subst e2
    rw [List.take_nil]
    exact RowR.nil _
  · rcases hr.2.2 with h | ⟨b, off, rfl, hlt, hc⟩
    · exact absurd h h0
    · have := RowR.take (R := R) (U := V.take k) (V := V.drop k) (m := k) (by rw [List.take_append_drop]; exact hr) (by rw [List.length_take, hr.1]; omega)
      simpa [add_plain] using this
/-- What an append leaves of the blocks below. -/
theorem grown_low {w' : World} {v : Value} {B : Nat} (hg : w.grownBy w' v.ownBlock) (hB : B ≤ w.heap.size) (hlo : ∀ g, v.ownBlock = some g → B ≤ g) : Below B w w' :=
  ⟨hg.os, hg.tape, hg.output, hg.size, fun j hj => hg.block j (by omega) (fun e => by have := hlo j e.symm; omega)⟩
theorem wpList_slice {ops : Array Oper} {rest : List Oper} {o : Oper} {a : Act} {Q : Exit → Act → World → Prop} (hg : o.guard = none) (x : Operand) (lo hi mx : Option Operand) (ho : o.op = .slice t x lo hi mx) (v : Value)
    (hrun : (Instr.sliceAt t (a.eval x) (lo.map a.eval) (hi.map a.eval) (mx.map a.eval)).run P w = .ok v w) (h : wpList P ops Q rest (a.put o.dst v) w) : wpList P ops Q (o :: rest) a w := by
  refine wpList_plain hg fun K' hK' => ?_
  unfold Oper.wp
  simp only [execOp, ho, hrun, Sem.run_bind, Sem.run_pure, Result.andThen_ok]
  exact hK' _ _ h
end
end Go.Proofs.YtgnccpmkdgfjeaaGreat

namespace Go.Proofs.YtgnccpmkdgfjeaaGreat
set_option linter.unusedVariables false
open Go.ChangeShapes Go.WideShapes Go.ChangeAt Go.RowKit

/-- Two integers (a structure, and no pair: nothing parts it). -/
structure P2 where
  a : Int
  b : Int
instance : DecidableEq P2 := fun x y => decidable_of_iff (x.a = y.a ∧ x.b = y.b) ⟨fun h => by cases x; cases y; simp at h; simp [h], fun h => by subst h; exact ⟨rfl, rfl⟩⟩
def P2.Fits (x : P2) : Prop := wf64 x.a ∧ wf64 x.b
/-- Records of two integers; of one. -/
def prec : Rec P2 := ⟨fun x => [.int .i64 x.a, .int .i64 x.b], 2, by decide, fun _ => rfl, fun a u hu => by simp at hu; rcases hu with rfl | rfl <;> rfl⟩
def irec : Rec Int := ⟨fun x => [.int .i64 x], 1, by decide, fun _ => rfl, fun a u hu => by simp at hu; subst hu; rfl⟩
section
variable {w w' : World} {A : Option Addr} {n : Nat}
theorem RowR.int_at {V : List Int} (h : RowR irec w A n V) {i : Nat} (hi : i < n) : ∃ b off z, A = some ⟨b, off, none⟩ ∧ V[i]? = some z ∧ w.cell? ⟨b, off + i, none⟩ = some (.int .i64 z) := by
  obtain ⟨b, off, a, hA, hV, _, hc⟩ := h.at_ hi
  refine ⟨b, off, a, hA, hV, ?_⟩
  have := hc 0 _ rfl
  simpa [irec] using this
theorem RowR.pair_at {V : List P2} (h : RowR prec w A n V) {i : Nat} (hi : i < n) : ∃ b off x, A = some ⟨b, off, none⟩ ∧ V[i]? = some x ∧ w.cell? ⟨b, off + i * 2, none⟩ = some (.int .i64 x.a) ∧ w.cell? ⟨b, off + i * 2 + 1, none⟩ = some (.int .i64 x.b) := by
  obtain ⟨b, off, a, hA, hV, _, hc⟩ := h.at_ hi
  exact ⟨b, off, a, hA, hV, hc 0 _ rfl, hc 1 _ rfl⟩
/-- Rows that came in. -/
theorem rows_in {α : Type} {R : Rec α} {ks : List CK} {bytes : Nat} {a : Option Addr} {l k : Nat} {D : List (List Value)} {Ft : α → Prop} (hk : ks.length = R.size) (hd : ∀ vs, Flat ks vs → ∃ x, vs = R.cells x ∧ Ft x) (h : SliceIn w ks bytes a l k D) :
    ∃ V : List α, RowR R w a l V ∧ (∀ x ∈ V, Ft x) ∧ l ≤ k ∧ k ≤ maxLen := by
  obtain ⟨h1, h2, h3, _, h5, h6⟩ := h
  have hz : ∀ M : List (List Value), (∀ row ∈ M, Flat ks row) → ∃ V : List α, M = V.map R.cells ∧ ∀ x ∈ V, Ft x := by
    intro M
    induction M with
    | nil => intro _; exact ⟨[], rfl, by simp⟩
    | cons row M ih =>
      intro hM
      obtain ⟨V, e, hV⟩ := ih (fun r hr => hM r (by simp [hr]))
      obtain ⟨x, rfl, hx⟩ := hd _ (hM row (by simp))
      exact ⟨x :: V, by simp [e], by intro y hy; rcases List.mem_cons.1 hy with rfl | hy; exact hx; exact hV y hy⟩
  obtain ⟨V, rfl, hV⟩ := hz D h2
  refine ⟨V, ⟨by simpa using h1, by omega, ?_⟩, hV, h3, h5⟩
  rcases h6 with h6 | ⟨b, off, e, hlt, hc⟩
  · exact .inl h6
  · refine .inr ⟨b, off, e, hlt, fun j u hu => ?_⟩
    have hj := (List.getElem?_eq_some_iff.1 hu).1
    rw [R.flat_length V] at hj
    have hpos := R.pos
    have hi : j / R.size < V.length := (Nat.div_lt_iff_lt_mul hpos).2 hj
    have hV' : V[j / R.size]? = some (V[j / R.size]'hi) := List.getElem?_eq_getElem hi
    have hr : j % R.size < (R.cells (V[j / R.size]'hi)).length := by rw [R.len]; exact Nat.mod_lt _ hpos
    have hv : (R.cells (V[j / R.size]'hi))[j % R.size]? = some ((R.cells (V[j / R.size]'hi))[j % R.size]'hr) := List.getElem?_eq_getElem _
    have hdm : j / R.size * R.size + j % R.size = j := by rw [Nat.mul_comm]; exact Nat.div_add_mod _ _
    have h7 := R.flat_at hV' hv
    rw [hdm] at h7
    rw [h7] at hu
    injection hu with hu
    rw [← hu]
    have := hc (j / R.size) (j % R.size) (R.cells (V[j / R.size]'hi)) _ (by rw [List.getElem?_map, hV']; rfl) hv
    rwa [hk, hdm] at this
theorem pairs_in {bytes : Nat} {a : Option Addr} {l k : Nat} {D : List (List Value)} (h : SliceIn w [.int .i64, .int .i64] bytes a l k D) : ∃ V : List P2, RowR prec w a l V ∧ (∀ x ∈ V, x.Fits) ∧ l ≤ k ∧ k ≤ maxLen := by
  refine rows_in (R := prec) (Ft := P2.Fits) rfl (fun vs hv => ?_) h
  obtain _ | ⟨v0, vs⟩ := vs
  · exact hv.elim
  obtain ⟨⟨a, rfl, ha⟩, hv⟩ := hv
  obtain _ | ⟨v1, vs⟩ := vs
  · exact hv.elim
  obtain ⟨⟨b, rfl, hb⟩, hv⟩ := hv
  obtain _ | ⟨v2, vs⟩ := vs
  · exact ⟨⟨a, b⟩, rfl, bounds_i64 ha, bounds_i64 hb⟩
  · exact hv.elim
theorem ints_in {bytes : Nat} {a : Option Addr} {l k : Nat} {D : List (List Value)} (h : SliceIn w [.int .i64] bytes a l k D) : ∃ V : List Int, RowR irec w a l V ∧ (∀ x ∈ V, wf64 x) ∧ l ≤ k ∧ k ≤ maxLen := by
  refine rows_in (R := irec) (Ft := wf64) rfl (fun vs hv => ?_) h
  obtain _ | ⟨v0, vs⟩ := vs
  · exact hv.elim
  obtain ⟨⟨a, rfl, ha⟩, hv⟩ := hv
  obtain _ | ⟨v1, vs⟩ := vs
  · exact ⟨a, rfl, bounds_i64 ha⟩
  · exact hv.elim
end

/-! ### a slice's type -/
/-- The type t is a slice of e, whose values are the records R. -/
structure SlT {α : Type} (P : Program) (R : Rec α) (t e : TypeId) : Prop where
  und : P.underlying t = some (.slice e)
  inf : ∃ i z, P.info? e = some i ∧ i.zero = some z ∧ i.size = R.size ∧ i.bytes ≤ 64 ∧ z.cells.size = R.size
theorem slT_of {α : Type} {P : Program} {R : Rec α} {t e : TypeId} {z : Value} {n by_ : Nat} (ht : P.underlying t = some (.slice e)) (hi : (P.info? e).map (fun i => (i.zero, i.size, i.bytes)) = some (some z, n, by_)) (hn : n = R.size) (hb : by_ ≤ 64) (hz : z.cells.size = R.size) : SlT P R t e := by
  refine ⟨ht, ?_⟩
  cases h : P.info? e with
  | none => rw [h] at hi; cases hi
  | some i =>
    rw [h] at hi
    simp only [Option.map_some, Option.some.injEq, Prod.mk.injEq] at hi
    exact ⟨i, z, rfl, hi.1, hi.2.1.trans hn, by omega, hz⟩
/-- It lies in memory that is new since there were B blocks, if anywhere. -/
def Fresh (B : Nat) (A : Option Addr) : Prop := ∀ b off, A = some ⟨b, off, none⟩ → B ≤ b
theorem Fresh.mono {B B' : Nat} {A : Option Addr} (h : Fresh B A) (hb : B' ≤ B) : Fresh B' A := fun b off e => Nat.le_trans hb (h b off e)
theorem Fresh.none (B : Nat) : Fresh B none := fun _ _ e => by cases e
theorem Fresh.at_ {B b off : Nat} (h : B ≤ b) : Fresh B (some ⟨b, off, Option.none⟩) := fun _ _ e => by cases e; exact h
theorem OwnR.fresh {α : Type} {R : Rec α} {w : World} {base : Nat} {e : TypeId} {A : Option Addr} {n c : Nat} {V : List α} (h : OwnR R w base e (.slice A n c) V) : Fresh base A := fun b off e => h.low b (by rw [e]; rfl)
/-- A new row of one record. -/
theorem OwnR.one {α : Type} {R : Rec α} (w : World) (a : α) (e : TypeId) {base : Nat} {cs : Array Value} (hcs : cs.toList = R.cells a) (hb : base ≤ w.heap.size) : OwnR R (w.alloc (.cells cs e)) base e (.slice (some ⟨w.heap.size, 0, none⟩) 1 1) [a] := by
  have hl : cs.size = R.size := by rw [← Array.length_toList, hcs, R.len]
  have hfl : R.flat [a] = cs.toList := by rw [Rec.flat, Rec.flat, List.append_nil, hcs]
  refine ⟨⟨R.flat_length [a], .inr ⟨w.heap.size, 1, cs, rfl, hb, heap_alloc_at w _, Nat.le_refl _, by decide, by omega, ?_⟩⟩, by simp [maxLen]⟩
  rw [hfl, List.take_of_length_le (by rw [Array.length_toList, hl]; simp)]
/-- Rows that lie elsewhere stay. -/
theorem RowR.apart {α : Type} {R : Rec α} {w w' : World} {A : Option Addr} {n : Nat} {V : List α} {F : Nat → Prop} (h : RowR R w A n V) (hf : Frm F w w') (hF : ∀ b off, A = some ⟨b, off, none⟩ → 0 < n → ¬ F b) : RowR R w' A n V := by
  by_cases h0 : n = 0
  · exact ⟨h.1, h.2.1, .inl h0⟩
  · exact h.frm hf (fun b off e => hF b off e (by omega))
theorem RowR.lt {α : Type} {R : Rec α} {w : World} {A : Option Addr} {n : Nat} {V : List α} (h : RowR R w A n V) {b off : Nat} (e : A = some ⟨b, off, none⟩) (hn : 0 < n) : b < w.heap.size := by
  obtain ⟨b', off', a, e', _, hlt, _⟩ := h.at_ hn
  rw [e] at e'
  cases e'
  exact hlt
section
variable {α : Type} {P : Program} {R : Rec α} {t e : TypeId} {w : World} {base n m c d : Nat} {v : Value} {V U : List α} {A B : Option Addr}
variable {ops : Array Oper} {rest : List Oper} {o : Oper} {a : Act} {Q : Exit → Act → World → Prop}
theorem SlT.size (S : SlT P R t e) (w : World) : (sizeOf e).run P w = .ok R.size w := by
  obtain ⟨i, z, hi, _, hs, _⟩ := S.inf
  simp [sizeOf, typeInfo, hi, hs]
/-- '== nil'. -/
theorem run_isNil (S : SlT P R t e) (w : World) : (binOp .eql t (.slice A n c) (.slice none 0 0)).run P w = .ok (.bool A.isNone) w := by
  have h := run_equal_slice_nil (P := P) w t e A n c S.und
  simp [binOp, h]
/-- append onto a row of the call's own. -/
theorem wpList_appS (S : SlT P R t e) (hg : o.guard = none) (s x : Operand) (ho : o.op = .call { callee := .builtin .append, args := #[s, x], argTypes := #[t, t] })
    (hsv : a.eval s = v) (hxv : a.eval x = .slice A m c) (own : OwnR R w base e v V) (src : RowR R w A m U) (hle : V.length + m ≤ 1048576) (hbase : base ≤ w.heap.size)
    (h : ∀ v' w', OwnR R w' base e v' (V ++ U) → w.grownBy w' v.ownBlock → (v'.ownBlock = v.ownBlock ∨ v'.ownBlock = some w.heap.size) → wpList P ops Q rest (a.put o.dst v') w') : wpList P ops Q (o :: rest) a w := by
  obtain ⟨i, z, hi, hz, hs, hb, hc⟩ := S.inf
  exact wpList_appR hg s x ho S.und hi hz hs rfl hc (by omega) hsv hxv own src hle hbase h
theorem appS_step {K : Act → World → Prop} {E : Prop} (S : SlT P R t e) (hg : o.guard = none) (s x : Operand) (ho : o.op = .call { callee := .builtin .append, args := #[s, x], argTypes := #[t, t] })
    (hsv : a.eval s = v) (hxv : a.eval x = .slice A m c) (own : OwnR R w base e v V) (src : RowR R w A m U) (hle : V.length + m ≤ 1048576) (hbase : base ≤ w.heap.size)
    (h : ∀ v' w', OwnR R w' base e v' (V ++ U) → w.grownBy w' v.ownBlock → (v'.ownBlock = v.ownBlock ∨ v'.ownBlock = some w.heap.size) → K (a.put o.dst v') w') :
    if Region.wanted o (yielded ops a.tmps) = true then Oper.wp P o a w K Q else E := by
  obtain ⟨i, z, hi, hz, hs, hb, hc⟩ := S.inf
  exact appR_step hg s x ho S.und hi hz hs rfl hc (by omega) hsv hxv own src hle hbase h
/-- append onto any row that is cut to its length: it takes new memory. -/
theorem run_appC {ty : TypeId} (S : SlT P R t e) (own : RowR R w A n V) (src : RowR R w B m U) (hm : 0 < m) (hle : n + m ≤ 1048576) :
    ∃ A' c' w', (Builtin.append_ #[t, t] ty #[.slice A n n, .slice B m d]).run P w = .ok (.slice A' (n + m) c') w' ∧ RowR R w' A' (n + m) (V ++ U) ∧ n + m ≤ c' ∧ Fresh w.heap.size A' ∧ Below w.heap.size w w' := by
  obtain ⟨i, z, hi, hz, hs, hb, hc⟩ := S.inf
  have hold : (Builtin.firstCells i.size n (.slice A n n)).run P w.drew = .ok (R.flat V).toArray w.drew := by
    rcases own.2.2 with h0 | ⟨b, off, rfl, hlt, hcs⟩
    · subst h0
      have : V = [] := List.eq_nil_of_length_eq_zero own.1
      subst this
      cases A <;> simp [Builtin.firstCells, loadCells, loadCellsFrom, Rec.flat]
    · exact run_firstCells_some (P := P) w.drew i.size n ⟨b, off, none⟩ n n (R.flat V) (by rw [R.flat_length, own.1, hs]) (fun j u hu => by rw [add_plain]; exact hcs j u hu)
  have hsrc : Src P i.size t (.slice B m d) m (R.flat U) w := by
    rcases src.2.2 with h0 | ⟨b, off, rfl, hlt, hcs⟩
    · omega
    · exact Src.ofSlice w S.und ⟨b, off, none⟩ m d (R.flat U) (by rw [R.flat_length, src.1, hs]) (fun j u hu => by rw [add_plain]; exact hcs j u hu) (R.flat_one U)
  have hfit : Builtin.nextslicecap (n + m) n * i.bytes ≤ 281474976710656 := by
    have h1 := nextslicecap_le (need := n + m) (old := n) (by omega)
    have := Nat.mul_le_mul (Nat.le_trans h1 (Nat.mul_le_mul_left 2 hle)) hb
    omega
  have hr := run_append_grow_src (P := P) w t t ty e i z S.und hi hz A n n (R.flat V) hold (.slice B m d) m (R.flat U) hsrc (by omega) (by omega) hfit
  refine ⟨_, _, _, hr, ⟨by rw [List.length_append, own.1, src.1], by unfold maxLen; omega, .inr ⟨w.heap.size, 0, rfl, by simp, fun j u hu => ?_⟩⟩, grownCap_ge _ _ _ _, Fresh.at_ (Nat.le_refl _), below_ali (Below.refl _ _) (drew_ali w) |>.alloc (Nat.le_refl _) _⟩
  have hat := heap_alloc_at w.drew (.cells ((R.flat V ++ R.flat U).toArray ++ Builtin.zeroCells z.cells (grownCap w (n + m) n e - (n + m))) e)
  rw [show w.drew.heap.size = w.heap.size from rfl] at hat
  rw [cell_of hat, Nat.zero_add, ← R.flat_append, Array.getElem?_append_left (by rw [List.size_toArray]; exact (List.getElem?_eq_some_iff.1 hu).1)]
  simpa using hu
theorem wpList_appC (S : SlT P R t e) (hg : o.guard = none) (s x : Operand) (ho : o.op = .call { callee := .builtin .append, args := #[s, x], argTypes := #[t, t] })
    (hsv : a.eval s = .slice A n n) (hxv : a.eval x = .slice B m d) (own : RowR R w A n V) (src : RowR R w B m U) (hm : 0 < m) (hle : n + m ≤ 1048576)
    (h : ∀ A' c' w', RowR R w' A' (n + m) (V ++ U) → n + m ≤ c' → Fresh w.heap.size A' → Below w.heap.size w w' → wpList P ops Q rest (a.put o.dst (.slice A' (n + m) c')) w') : wpList P ops Q (o :: rest) a w := by
  refine wpList_plain hg fun _ hK => ?_
  obtain ⟨A', c', w', hr, h2, h3, h4, h5⟩ := run_appC (ty := o.type) (d := d) S own src hm hle
  unfold Oper.wp execOp
  simp only [ho, resolve, invoke, builtin, Sem.run_bind, Sem.run_pure, Result.andThen_ok, List.map_toArray, List.map_cons, List.map_nil, hsv, hxv, hr]
  exact hK _ _ (h A' c' w' h2 h3 h4 h5)
theorem appC_step {K : Act → World → Prop} {E : Prop} (S : SlT P R t e) (hg : o.guard = none) (s x : Operand) (ho : o.op = .call { callee := .builtin .append, args := #[s, x], argTypes := #[t, t] })
    (hsv : a.eval s = .slice A n n) (hxv : a.eval x = .slice B m d) (own : RowR R w A n V) (src : RowR R w B m U) (hm : 0 < m) (hle : n + m ≤ 1048576)
    (h : ∀ A' c' w', RowR R w' A' (n + m) (V ++ U) → n + m ≤ c' → Fresh w.heap.size A' → Below w.heap.size w w' → K (a.put o.dst (.slice A' (n + m) c')) w') :
    if Region.wanted o (yielded ops a.tmps) = true then Oper.wp P o a w K Q else E := by
  rw [if_pos (show Region.wanted o (yielded ops a.tmps) = true by simp [Region.wanted, hg])]
  obtain ⟨A', c', w', hr, h2, h3, h4, h5⟩ := run_appC (ty := o.type) (d := d) S own src hm hle
  unfold Oper.wp execOp
  simp only [ho, resolve, invoke, builtin, Sem.run_bind, Sem.run_pure, Result.andThen_ok, List.map_toArray, List.map_cons, List.map_nil, hsv, hxv, hr]
  exact h A' c' w' h2 h3 h4 h5
/-- 'x[:len(x):len(x)]'. -/
theorem run_cut (S : SlT P R t e) (hr : RowR R w A n V) (hnc : n ≤ c) {k k' : IntKind} :
    ∃ A', (∀ w', (Instr.sliceAt t (.slice A n c) none (some (.int k n)) (some (.int k' n))).run P w' = .ok (.slice A' n n) w') ∧ RowR R w A' n V := by
  have e1 : ∀ w', (Instr.sliceAt t (.slice A n c) none (some (.int k n)) (some (.int k' n))).run P w' = .ok (.slice (if n = 0 then A else A.map (·.add (0 * R.size))) n n) w' := by
    intro w'
    simp [Instr.sliceAt, Instr.slice, Instr.sliceBounds, Instr.sliceBound, run_underlying S.und, S.size, asIntOf]
    omega
  refine ⟨_, e1, ?_⟩
  by_cases h0 : n = 0
  · rw [if_pos h0]; exact hr
  · rw [if_neg h0]
    rcases hr.2.2 with h | ⟨b, off, rfl, hlt, hc⟩
    · exact absurd h h0
    · simpa [add_plain] using hr
/-- 'make([]T, 0, n)'. -/
theorem wpList_makeS (S : SlT P R t e) (hg : o.guard = none) (l cp : Operand) (ho : o.op = Op.makeSlice t l cp) (hl : a.eval l = .int .i64 0) (hc : a.eval cp = .int .i64 (n : Int)) (hn : n ≤ 1048576)
    (hK : ∀ w', OwnR R w' w.heap.size e (.slice (some ⟨w.heap.size, 0, none⟩) 0 n) [] → Below w.heap.size w w' → wpList P ops Q rest (a.put o.dst (.slice (some ⟨w.heap.size, 0, none⟩) 0 n)) w') : wpList P ops Q (o :: rest) a w := by
  obtain ⟨i, z, hi, hz, hs, hb, hcz⟩ := S.inf
  refine wpList_make_own w hg l cp t ho w.heap.size e i z R.size S.und hi hz hs .i64 .i64 _ n hl hc rfl ?_ (by unfold maxLen; omega) (Nat.le_refl _) (fun w' h1 h2 => hK w' ⟨h1, by simp⟩ ⟨h2.os, h2.tape, h2.output, h2.size, fun j hj => h2.block j hj (by simp)⟩)
  have := Nat.mul_le_mul hb hn
  omega
end
end Go.Proofs.YtgnccpmkdgfjeaaGreat

namespace Go.Proofs.YtgnccpmkdgfjeaaGreat
set_option linter.unusedVariables false
open Go.ChangeShapes Go.WideShapes Go.ChangeAt Go.RowKit

theorem region_tail {P : Program} {id : Nat} {Q : Exit → Act → World → Prop} {a : Act} {w : World} {l : List Oper} (n : Nat) (hm : P.follows .mixedOrders = true) (hB : Region.lexTailB .any l.toArray n = true)
    (h : wpStill P l.toArray w.drew (fun a' => wpList P l.toArray Q (l.drop n) a' w.drew) (l.take n) a) : (Code.region id l.toArray true).wp P Q a w := wp_region_still_tail n hm hB h
/-- An operation of the head whose run is said (a value of many cells: nothing opens it). -/
theorem wpStill_run {P : Program} {ops : Array Oper} {w : World} {Q : Act → Prop} {o : Oper} {rest : List Oper} {a : Act} (hg : o.guard = none) (v : Value) (hrun : (execOp a.eval o).run P w = .ok (.value v) w) (h : wpStill P ops w Q rest (a.put o.dst v)) : wpStill P ops w Q (o :: rest) a := by
  have hw : Region.wanted o (yielded ops a.tmps) = true := by simp [Region.wanted, hg]
  unfold wpStill
  rw [if_pos hw]
  unfold Oper.still
  rw [hrun]
  exact ⟨rfl, h⟩
theorem grow_below (w : World) (q : Nat) (os : Array Obj) : Below w.heap.size w (Sort.grow (w.drewN q) os) := ⟨rfl, rfl, rfl, by rw [Sort.size_grow]; exact Nat.le_add_right _ _, fun j hj => Sort.heap_grow_old (w.drewN q) os hj⟩
end Go.Proofs.YtgnccpmkdgfjeaaGreat

namespace Go.Proofs.YtgnccpmkdgfjeaaGreat
set_option linter.unusedVariables false
open Go.ChangeShapes Go.WideShapes Go.ChangeAt Go.RowKit

/-- A list with others laid over it from place o on. -/
def put : List Int → Nat → List Int → List Int
  | Z, _, [] => Z
  | Z, o, v :: r => put (Z.set o v) (o + 1) r
theorem put_len : ∀ (vs Z : List Int) (o : Nat), (put Z o vs).length = Z.length
  | [], _, _ => rfl
  | v :: r, Z, o => by rw [put, put_len r]; simp
theorem put_out : ∀ (vs Z : List Int) (o j : Nat), j < o ∨ o + vs.length ≤ j → (put Z o vs)[j]? = Z[j]?
  | [], _, _, _, _ => rfl
  | v :: r, Z, o, j, h => by
    simp at h
    rw [put, put_out r _ _ _ (by omega), List.getElem?_set_ne (by omega)]
theorem put_in : ∀ (vs Z : List Int) (o j : Nat), j < vs.length → o + j < Z.length → (put Z o vs)[o + j]? = vs[j]?
  | [], _, _, _, h, _ => by simp at h
  | v :: r, Z, o, 0, h, h' => by
    rw [put, put_out r _ _ _ (by omega), Nat.add_zero, List.getElem?_set_self (by omega)]
    rfl
  | v :: r, Z, o, j + 1, h, h' => by
    have := put_in r (Z.set o v) (o + 1) j (by simpa using h) (by simp; omega)
    rw [put, show o + (j + 1) = o + 1 + j by omega, this]
    rfl

/-- The block of a head and integers of a kind. -/
abbrev hobj (k : IntKind) (ty : TypeId) (H : List Value) (Z : List Int) : Obj := .cells ⟨H ++ Z.map (Value.int k)⟩ ty
theorem hobj_set {k : IntKind} (H : List Value) (Z : List Int) (j : Nat) (z : Int) : (Array.mk (H ++ Z.map (Value.int k))).setIfInBounds (H.length + j) (.int k z) = ⟨H ++ (Z.set j z).map (Value.int k)⟩ := by
  simp [List.map_set]
theorem hobj_cell {k : IntKind} {ty : TypeId} {w : World} {b : Nat} {H : List Value} {Z : List Int} (h : w.heap[b]? = some (hobj k ty H Z)) {j : Nat} {z : Int} (hz : Z[j]? = some z) : w.cell? ⟨b, H.length + j, none⟩ = some (.int k z) := by
  rw [cell_of h, List.getElem?_toArray, List.getElem?_append_right (by omega), Nat.add_sub_cancel_left, List.getElem?_map, hz]; rfl
theorem heap_setCells {k : IntKind} {ty : TypeId} {b : Nat} {H : List Value} : ∀ (vs : List Int) (o : Nat) (Z : List Int) (w : World), w.heap[b]? = some (hobj k ty H Z) → (w.setCells b (H.length + o) (vs.map (Value.int k))).heap[b]? = some (hobj k ty H (put Z o vs))
  | [], _, _, _, h => h
  | v :: r, o, Z, w, h => by
    have h1 := heap_set_same (o := H.length + o) h (.int k v)
    rw [hobj_set] at h1
    have := heap_setCells r (o + 1) _ _ h1
    exact this
theorem frm_setCells {F : Nat → Prop} {b : Nat} (hb : F b) : ∀ (vs : List Value) (o : Nat) (a w : World), Frm F a w → Frm F a (w.setCells b o vs)
  | [], _, _, _, h => h
  | v :: r, o, a, w, h => frm_setCells hb r (o + 1) a _ (h.set (p := ⟨b, o, none⟩) hb v)

/-- 'clear' of a slice whose elements are all of one integer, however they are parted: the cells are zero. -/
theorem run_clear_ints {P : Program} (w : World) (t e ty : TypeId) (k : IntKind) (z : Value) (m : Nat) (ht : P.underlying t = some (.slice e)) (hv : ∀ w, (zeroValue e).run P w = .ok z w) (hz : z.cells = Array.replicate m (.int k 0)) (hm : 0 < m) (b o n c : Nat) (hn : 0 < n)
    (hc : ∀ j, j < n * m → (w.cell? ⟨b, o + j, none⟩).isSome = true) (hf : ∀ j, j < n * m → w.frozen? ⟨b, o + j, none⟩ = false) :
    (Builtin.clear_ #[t] ty #[.slice (some ⟨b, o, none⟩) n c]).run P w = .ok (.tuple #[]) (w.setCells b o ((List.replicate (n * m) 0).map (Value.int k))) := by
  have hzc : (Builtin.zeroCells z.cells n).toList = (List.replicate (n * m) (0 : Int)).map (Value.int k) := by
    rw [hz]
    simp [Builtin.zeroCells]
    apply List.ext_getElem
    · simp
    · intro i h1 h2
      have := Nat.mod_lt i hm
      simp [this]
  have hst := run_storeCells_cells (P := P) b o ((List.replicate (n * m) (0 : Int)).map (Value.int k)) 0 w (by simpa using hc) (by simpa using hf) (by intro v hv'; simp at hv'; rw [hv'.2]; rfl)
  simp only [Nat.add_zero] at hst
  obtain ⟨q, rfl⟩ : ∃ q, n = q + 1 := ⟨n - 1, by omega⟩
  simp only [Builtin.clear_]
  simp [run_underlying ht, hv, hzc, hst, -List.map_replicate]

/-- An element of an array of integers by value. -/
theorem run_index_one {P : Program} (w : World) (t e : TypeId) (n : Nat) (cs : Array Value) (k : IntKind) (i : Int) (v : Value) (h : P.underlying t = some (.array n e)) (he : (isAgg e).run P w = .ok false w) (hs : (sizeOf e).run P w = .ok 1 w) (h0 : 0 ≤ i) (h1 : i < n) (hv : cs[i.toNat]? = some v) :
    (Instr.index t (.agg cs) (.int k i)).run P w = .ok v w := by
  simp [Instr.index, asIntOf, run_underlying h, h0, h1, part, he, hs, hv]
theorem run_index_agg {P : Program} (w : World) (t e : TypeId) (n s : Nat) (cs : Array Value) (k : IntKind) (i : Int) (h : P.underlying t = some (.array n e)) (he : (isAgg e).run P w = .ok true w) (hs : (sizeOf e).run P w = .ok s w) (h0 : 0 ≤ i) (h1 : i < n) :
    (Instr.index t (.agg cs) (.int k i)).run P w = .ok (.agg (cs.extract (i.toNat * s) (i.toNat * s + s))) w := by
  simp [Instr.index, asIntOf, run_underlying h, h0, h1, part, he, hs]
end Go.Proofs.YtgnccpmkdgfjeaaGreat

namespace Go.Proofs.YtgnccpmkdgfjeaaGreat
set_option linter.unusedVariables false
open Go.ChangeShapes Go.WideShapes Go.ChangeAt Go.RowKit

/-- Cells by value. -/
def aggV (vs : List Value) : Array Value := ⟨vs⟩
/-- The block of such a value. -/
def vobj (ty : TypeId) (vs : List Value) : Obj := .cells (aggV vs) ty
/-- Each is one cell. -/
def Ones (vs : List Value) : Prop := ∀ v ∈ vs, v.oneCell' = true
theorem aggV_list (vs : List Value) : (aggV vs).toList = vs := rfl
theorem aggV_size (vs : List Value) : (aggV vs).size = vs.length := rfl
theorem aggV_of (c : Array Value) : c = aggV c.toList := rfl
theorem aggV_inj {a b : List Value} (h : aggV a = aggV b) : a = b := congrArg Array.toList h
theorem aggV_one {vs : List Value} (h : Ones vs) : (aggV vs).all (·.oneCell') = true := all_oneCell_toArray h
/-- A list with others laid over it from place o on. -/
def putV : List Value → Nat → List Value → List Value
  | Z, _, [] => Z
  | Z, o, v :: r => putV (Z.set o v) (o + 1) r
theorem putV_len : ∀ (vs Z : List Value) (o : Nat), (putV Z o vs).length = Z.length
  | [], _, _ => rfl
  | v :: r, Z, o => by rw [putV, putV_len r]; simp
theorem putV_out : ∀ (vs Z : List Value) (o j : Nat), j < o ∨ o + vs.length ≤ j → (putV Z o vs)[j]? = Z[j]?
  | [], _, _, _, _ => rfl
  | v :: r, Z, o, j, h => by
    simp at h
    rw [putV, putV_out r _ _ _ (by omega), List.getElem?_set_ne (by omega)]
theorem putV_in : ∀ (vs Z : List Value) (o j : Nat), j < vs.length → o + j < Z.length → (putV Z o vs)[o + j]? = vs[j]?
  | [], _, _, _, h, _ => by simp at h
  | v :: r, Z, o, 0, h, h' => by
    rw [putV, putV_out r _ _ _ (by omega), Nat.add_zero, List.getElem?_set_self (by omega)]
    rfl
  | v :: r, Z, o, j + 1, h, h' => by
    have := putV_in r (Z.set o v) (o + 1) j (by simpa using h) (by simp; omega)
    rw [putV, show o + (j + 1) = o + 1 + j by omega, this]
    rfl
theorem putV_whole {Z Z' : List Value} (hl : Z.length = Z'.length) : putV Z 0 Z' = Z' := by
  apply List.ext_getElem?
  intro i
  by_cases hi : i < Z'.length
  · have := putV_in Z' Z 0 i hi (by omega)
    rwa [Nat.zero_add] at this
  · rw [List.getElem?_eq_none (by rw [putV_len]; omega), List.getElem?_eq_none (by omega)]
theorem size_setCellsV (b : Nat) : ∀ (vs : List Value) (o : Nat) (w : World), (w.setCells b o vs).heap.size = w.heap.size
  | [], _, _ => rfl
  | v :: r, o, w => by rw [World.setCells, size_setCellsV b r]; exact heap_set_size _ _ _
section
variable {w w' : World} {g j : Nat} {ty : TypeId} {vs us : List Value} {v : Value}
theorem vobj_cell (h : w.heap[g]? = some (vobj ty vs)) (hz : vs[j]? = some v) : w.cell? ⟨g, j, none⟩ = some v := by
  rw [cell_of h]; simpa [aggV] using hz
theorem vobj_frozen (h : w.heap[g]? = some (vobj ty vs)) (j : Nat) : w.frozen? ⟨g, j, none⟩ = false := frozen_of h j
theorem vobj_range (h : w.heap[g]? = some (vobj ty vs)) : w.rangeAt g 0 vs := fun j v hv => by
  rw [Nat.zero_add]; exact vobj_cell h hv
theorem vobj_there (h : w.heap[g]? = some (vobj ty vs)) (o n : Nat) (hn : o + n ≤ vs.length) : w.there g o n := fun j hj =>
  ⟨by rw [vobj_cell h (List.getElem?_eq_getElem (by omega))]; rfl, vobj_frozen h _⟩
theorem vobj_set (h : w.heap[g]? = some (vobj ty vs)) (j : Nat) (v : Value) : (w.setCell ⟨g, j, none⟩ v).heap[g]? = some (vobj ty (vs.set j v)) := by
  rw [heap_set_same h]; simp [vobj, aggV]
theorem vobj_puts : ∀ (us vs : List Value) (o : Nat) (w : World), w.heap[g]? = some (vobj ty vs) → (w.setCells g o us).heap[g]? = some (vobj ty (putV vs o us))
  | [], _, _, _, h => h
  | v :: r, vs, o, w, h => by
    have h1 : (w.setCell ⟨g, o, none⟩ v).heap[g]? = some (vobj ty (vs.set o v)) := by
      rw [heap_set_same h]; simp [vobj, aggV]
    exact vobj_puts r _ _ _ h1
end

section
variable {P : Program} {ops : Array Oper} {rest : List Oper} {o : Oper} {a : Act} {w : World} {Q : Exit → Act → World → Prop}
theorem run_load_agg (w : World) (ty : TypeId) (g : Nat) (vs : List Value) (d : TypeDesc) (hb : w.heap[g]? = some (vobj ty vs)) (hu : P.underlying ty = some d) (hd : d.isRow = true) (hi : (P.info? ty).map (·.size) = some vs.length) :
    (loadVar ty ⟨g, 0, none⟩).run P w = .ok (.agg (aggV vs)) w :=
  run_loadVar_mid w g 0 ty vs d (vobj_range hb) hu hd hi
theorem run_loadAt_agg (w : World) (ty : TypeId) (g : Nat) (vs : List Value) (d : TypeDesc) (hb : w.heap[g]? = some (vobj ty vs)) (hu : P.underlying ty = some d) (hd : d.isRow = true) (hi : (P.info? ty).map (·.size) = some vs.length) :
    (Instr.loadAt ty (.pointer (some ⟨g, 0, none⟩))).run P w = .ok (.agg (aggV vs)) w :=
  run_loadAt_mid w g 0 ty vs d (vobj_range hb) hu hd hi
/-- A result that lies in a cell; one, and two in slots. -/
theorem results_agg {fn : Func} {tmps : Array Value} {t : TypeId} {c : Tmp} {p : Addr} {v : Value} (hr : fn.results = #[.cell c t]) (ha : tmps.getD c undef = .pointer (some p)) (hl : (loadVar t p).run P w = .ok v w) : (results fn tmps).run P w = .ok v w := by
  unfold results
  rw [hr]
  rw [Array.getD_eq_getD_getElem?] at ha
  simp [asAddr, ha, hl]
theorem results_agg1 {fn : Func} {tmps : Array Value} {t : TypeId} {c d : Tmp} {p : Addr} {v x : Value} (hr : fn.results = #[.cell c t, .tmp d]) (ha : tmps.getD c undef = .pointer (some p)) (hl : (loadVar t p).run P w = .ok v w) (hx : tmps.getD d undef = x) :
    (results fn tmps).run P w = .ok (.tuple #[v, x]) w := by
  unfold results
  rw [hr]
  rw [Array.getD_eq_getD_getElem?] at ha hx
  simp [asAddr, ha, hl, hx]
theorem results_agg2 {fn : Func} {tmps : Array Value} {t : TypeId} {c d e : Tmp} {p : Addr} {v x y : Value} (hr : fn.results = #[.cell c t, .tmp d, .tmp e]) (ha : tmps.getD c undef = .pointer (some p)) (hl : (loadVar t p).run P w = .ok v w) (hx : tmps.getD d undef = x) (hy : tmps.getD e undef = y) :
    (results fn tmps).run P w = .ok (.tuple #[v, x, y]) w := by
  unfold results
  rw [hr]
  rw [Array.getD_eq_getD_getElem?] at ha hx hy
  simp [asAddr, ha, hl, hx, hy]
theorem wpList_load_agg (hg : o.guard = none) (ty : TypeId) (x : Operand) (ho : o.op = .load ty x) (g : Nat) (hx : a.eval x = .pointer (some ⟨g, 0, none⟩)) (vs : List Value) (hb : w.heap[g]? = some (vobj ty vs)) (d : TypeDesc) (hu : P.underlying ty = some d) (hd : d.isRow = true) (hi : (P.info? ty).map (·.size) = some vs.length)
    (h : wpList P ops Q rest (a.put o.dst (.agg (aggV vs))) w) : wpList P ops Q (o :: rest) a w :=
  wpList_load_mid hg ty x ho g 0 hx vs d (vobj_range hb) hu hd hi h
/-- The same behind a guard that holds. -/
theorem wpList_load_aggG (hw : Region.wanted o (yielded ops a.tmps) = true) (ty : TypeId) (x : Operand) (ho : o.op = .load ty x) (g : Nat) (hx : a.eval x = .pointer (some ⟨g, 0, none⟩)) (vs : List Value) (hb : w.heap[g]? = some (vobj ty vs)) (d : TypeDesc) (hu : P.underlying ty = some d) (hd : d.isRow = true) (hi : (P.info? ty).map (·.size) = some vs.length)
    (h : wpList P ops Q rest (a.put o.dst (.agg (aggV vs))) w) : wpList P ops Q (o :: rest) a w :=
  BigFrame.wpList_want hw fun K hK => wp_load_mid ty x ho g 0 hx vs d (vobj_range hb) hu hd hi (hK _ _ h)
/-- Stored into a part of a block, or into all of it. -/
theorem wpList_store_part (hg : o.guard = none) (ty : TypeId) (x y : Operand) (ho : o.op = .store ty x y) (g off : Nat) (bt : TypeId) (vs us : List Value) (hx : a.eval x = .pointer (some ⟨g, off, none⟩)) (hy : a.eval y = .agg (aggV us)) (hb : w.heap[g]? = some (vobj bt vs)) (hl : off + us.length ≤ vs.length) (hi : (P.info? ty).map (·.size) = some us.length) (h1 : Ones us)
    (h : ∀ w', w'.heap[g]? = some (vobj bt (putV vs off us)) → Frm (· = g) w w' → w'.heap.size = w.heap.size → wpList P ops Q rest (a.put o.dst undef) w') : wpList P ops Q (o :: rest) a w :=
  wpList_store_mid hg ty x y ho g off (aggV us) hx hy (by rw [aggV_size]; exact vobj_there hb _ _ hl) (by rw [hi, aggV_size]) (aggV_one h1)
    (h _ (vobj_puts us vs off w hb) (frm_setCells (F := (· = g)) (b := g) rfl _ _ _ _ (Frm.refl _ _)) (size_setCellsV _ _ _ _))
theorem wpList_store_agg (hg : o.guard = none) (ty : TypeId) (x y : Operand) (ho : o.op = .store ty x y) (g : Nat) (vs us : List Value) (hx : a.eval x = .pointer (some ⟨g, 0, none⟩)) (hy : a.eval y = .agg (aggV us)) (hb : w.heap[g]? = some (vobj ty vs)) (hl : vs.length = us.length) (hi : (P.info? ty).map (·.size) = some us.length) (h1 : Ones us)
    (h : ∀ w', w'.heap[g]? = some (vobj ty us) → Frm (· = g) w w' → w'.heap.size = w.heap.size → wpList P ops Q rest (a.put o.dst undef) w') : wpList P ops Q (o :: rest) a w :=
  wpList_store_part hg ty x y ho g 0 ty vs us hx hy hb (by omega) hi h1 (by rw [putV_whole hl]; exact h)
/-- One cell of a block, stored. -/
theorem run_storeVar_one (w : World) (g j : Nat) (ty : TypeId) (v : Value) (hc : v.cells = #[v]) (ht : w.there g j 1) (hi : (P.info? ty).map (·.size) = some 1) (h1 : v.oneCell' = true) :
    (storeVar ty ⟨g, j, none⟩ v).run P w = .ok () (w.setCells g j [v]) := by
  have e : storeVar ty ⟨g, j, none⟩ v = storeVar ty ⟨g, j, none⟩ (.agg #[v]) := by
    unfold storeVar
    rw [hc]
    rfl
  rw [e]
  exact run_storeVar_mid w g j ty #[v] ht hi (by simpa using h1)
theorem wpList_store_one (hg : o.guard = none) (ty : TypeId) (x y : Operand) (ho : o.op = .store ty x y) (g j : Nat) (bt : TypeId) (vs : List Value) (v : Value) (hx : a.eval x = .pointer (some ⟨g, j, none⟩)) (hy : a.eval y = v) (hb : w.heap[g]? = some (vobj bt vs)) (hj : j < vs.length) (hi : (P.info? ty).map (·.size) = some 1) (hc : v.cells = #[v]) (h1 : v.oneCell' = true)
    (h : ∀ w', w'.heap[g]? = some (vobj bt (vs.set j v)) → Frm (· = g) w w' → w'.heap.size = w.heap.size → wpList P ops Q rest (a.put o.dst undef) w') : wpList P ops Q (o :: rest) a w := by
  refine wpList_plain hg fun K' hK' => ?_
  unfold Oper.wp
  simp only [execOp, ho, hx, hy, Instr.storeAt, Instr.sureAddr, Sem.run_bind, Sem.run_pure, Result.andThen_ok, run_storeVar_one w g j ty v hc (vobj_there hb j 1 (by omega)) hi h1]
  exact hK' _ _ (h _ (vobj_puts [v] vs j w hb) (frm_setCells (F := (· = g)) (b := g) rfl _ _ _ _ (Frm.refl _ _)) (size_setCellsV _ _ _ _))
theorem wpList_alloc_agg (hg : o.guard = none) (ty : TypeId) (ho : o.op = .alloc ty) (g : Nat) (hG : w.heap.size = g) (vs : List Value) (hrun : (Instr.alloc ty true (.tuple #[])).run P w = .ok (.pointer (some ⟨w.heap.size, 0, none⟩)) (w.alloc (vobj ty vs)))
    (h : ∀ w', w'.heap[g]? = some (vobj ty vs) → Below g w w' → w'.heap.size = g + 1 → wpList P ops Q rest (a.put o.dst (.pointer (some ⟨g, 0, none⟩))) w') : wpList P ops Q (o :: rest) a w := by
  subst hG
  refine wpList_plain hg fun K' hK' => ?_
  unfold Oper.wp
  simp [execOp, ho, hrun, Result.andThen]
  exact hK' _ _ (h _ (heap_alloc_at w _) (below_alloc w _) (by simp))
theorem wpList_box_agg (hg : o.guard = none) (ty : TypeId) (x : Operand) (ho : o.op = .box ty x) (g : Nat) (hG : w.heap.size = g) (vs : List Value) (hx : a.eval x = .agg (aggV vs))
    (h : ∀ w', w'.heap[g]? = some (vobj ty vs) → Below g w w' → w'.heap.size = g + 1 → wpList P ops Q rest (a.put o.dst (.pointer (some ⟨g, 0, none⟩))) w') : wpList P ops Q (o :: rest) a w := by
  subst hG
  have hrun : (Instr.box ty (.agg (aggV vs))).run P w = .ok (.pointer (some ⟨w.heap.size, 0, none⟩)) (w.alloc (vobj ty vs)) := by
    simp [Instr.box, newVar, newRow, Value.cells, vobj]
  refine wpList_plain hg fun K' hK' => ?_
  unfold Oper.wp
  simp [execOp, ho, hx, hrun, Result.andThen]
  exact hK' _ _ (h _ (heap_alloc_at w _) (below_alloc w _) (by simp))
theorem wpList_build_agg (hg : o.guard = none) (t : TypeId) (parts : Array (Nat × Operand)) (hop : o.op = .build t parts) (vs : List Value) (hrun : (Instr.build t (parts.map fun (i, x) => (i, a.eval x))).run P w = .ok (.agg (aggV vs)) w)
    (h : wpList P ops Q rest (a.put o.dst (.agg (aggV vs))) w) : wpList P ops Q (o :: rest) a w := by
  refine wpList_plain hg fun K' hK' => ?_
  unfold Oper.wp
  simp [execOp, hop, hrun, Result.andThen]
  exact hK' _ _ h
/-- An element that is itself of many cells, by value. -/
theorem aggV_part (vs : List Value) (i n : Nat) : (aggV vs).extract i (i + n) = aggV ((vs.drop i).take n) := by
  apply Array.toList_inj.1
  simp [aggV, List.extract]
theorem run_index_aggs (w : World) (t e : TypeId) (n s : Nat) (vs : List Value) (k : IntKind) (i : Nat) (h : P.underlying t = some (.array n e)) (he : (isAgg e).run P w = .ok true w) (hs : (sizeOf e).run P w = .ok s w) (h1 : i < n) :
    (Instr.index t (.agg (aggV vs)) (.int k i)).run P w = .ok (.agg (aggV ((vs.drop (i * s)).take s))) w := by
  rw [run_index_agg w t e n s (aggV vs) k i h he hs (by omega) (by omega), Int.toNat_natCast, aggV_part]
end
end Go.Proofs.YtgnccpmkdgfjeaaGreat

namespace Go.Proofs.YtgnccpmkdgfjeaaGreat
set_option linter.unusedVariables false
open Go.ChangeShapes Go.WideShapes Go.ChangeAt Go.RowKit

theorem tI : SlT Tryz.prog irec 31 3 := slT_of (z := .int .i64 0) (n := 1) (by_ := 8) (by kernel_rfl) (by kernel_rfl) rfl (by decide) rfl
theorem tM : SlT Tryz.prog prec 89 185 := slT_of (z := .agg #[.int .i64 0, .int .i64 0]) (n := 2) (by_ := 16) (by kernel_rfl) (by kernel_rfl) rfl (by decide) rfl
theorem tP : SlT Tryz.prog prec 277 281 := slT_of (z := .agg #[.int .i64 0, .int .i64 0]) (n := 2) (by_ := 16) (by kernel_rfl) (by kernel_rfl) rfl (by decide) rfl
/-- A batch by value: its arguments, its members. -/
structure Bat (w : World) (A : Option Addr) (n c : Nat) (M : Option Addr) (m d : Nat) (zs : List Int) (ms : List P2) : Prop where
  ar : RowR irec w A n zs
  mr : RowR prec w M m ms
  nc : n ≤ c
  md : m ≤ d
  fits : ∀ x ∈ ms, x.Fits
abbrev batV (A : Option Addr) (n c : Nat) (M : Option Addr) (m d : Nat) : Value := .agg #[.slice A n c, .slice M m d]
section
variable {w w' : World} {A M : Option Addr} {n c m d : Nat} {zs : List Int} {ms : List P2}
theorem Bat.below (h : Bat w A n c M m d zs ms) (hb : Below w.heap.size w w') : Bat w' A n c M m d zs ms := ⟨h.ar.later hb, h.mr.later hb, h.nc, h.md, h.fits⟩
theorem Bat.alen (h : Bat w A n c M m d zs ms) : zs.length = n := h.ar.1
theorem Bat.mlen (h : Bat w A n c M m d zs ms) : ms.length = m := h.mr.1
end

/-- The block of a batch. -/
abbrev bobj (ty : TypeId) (A : Option Addr) (n c : Nat) (M : Option Addr) (m d : Nat) : Obj := .cells #[.slice A n c, .slice M m d] ty
theorem undB : ∃ fs, Tryz.prog.underlying 91 = some (.struct fs) := ⟨_, Tryz.underlying91⟩
theorem loadB {w : World} {g : Nat} {A M : Option Addr} {n c m d : Nat} (h : w.heap[g]? = some (bobj 91 A n c M m d)) : (loadVar 91 ⟨g, 0, none⟩).run Tryz.prog w = .ok (batV A n c M m d) w := by
  obtain ⟨fs, hu⟩ := undB
  exact run_load_agg w _ g [.slice A n c, .slice M m d] _ h hu rfl (by kernel_rfl)
theorem bobj_cells {w : World} {g : Nat} {ty : TypeId} {A M : Option Addr} {n c m d : Nat} (h : w.heap[g]? = some (bobj ty A n c M m d)) : w.cell? ⟨g, 0, none⟩ = some (.slice A n c) ∧ w.cell? ⟨g, 1, none⟩ = some (.slice M m d) :=
  ⟨by rw [cell_of h]; rfl, by rw [cell_of h]; rfl⟩
theorem take_more {α : Type} {V : List α} {j : Nat} {z : α} (h : V[j]? = some z) : V.take (j + 1) = V.take j ++ [z] := by
  obtain ⟨hlt, he⟩ := List.getElem?_eq_some_iff.1 h
  rw [List.take_succ_eq_append_getElem hlt, he]
theorem idxOf_at {zs : List Int} {x : Int} {j : Nat} (hno : x ∉ zs.take j) (hj : zs[j]? = some x) : zs.idxOf x = j := by
  obtain ⟨hlt, he⟩ := List.getElem?_eq_some_iff.1 hj
  have e : zs = zs.take j ++ zs.drop j := (List.take_append_drop j zs).symm
  rw [e, List.idxOf_append, if_neg hno, List.length_take, Nat.min_eq_left (Nat.le_of_lt hlt), List.drop_eq_getElem_cons hlt, he, List.idxOf_cons_self, Nat.zero_add]
/-- Where an argument stands; -1 without it. -/
def placeI (zs : List Int) (x : Int) : Int := if x ∈ zs then (zs.idxOf x : Int) else -1

set_option maxHeartbeats 1000000 in
theorem bindex_any (A : Option Addr) (n c : Nat) (x : Int) (zs : List Int) (w : World) (hr : RowR irec w A n zs) :
    Calls Tryz.prog 188 #[.slice A n c, .int .i64 x] w fun r w' => r = .returned (.int .i64 (placeI zs x)) ∧ w = w' := by
  have HR := Lib.hid hr
  have HL := Lib.hid hr.1
  have hm := hr.2.1
  unfold maxLen at hm
  clear hr
  go_enter Tryz.func188, Tryz.ntmps188
  go_wp2
  go_loopg [8] n (fun k v8 wr => ∃ j : Nat, j + k = n ∧ v8 = .int .i64 j ∧ x ∉ zs.take j ∧ wr = w)
  case atStart => exact ⟨0, by omega, rfl, by simp, rfl⟩
  case round =>
    obtain ⟨j, hj, rfl, hno, rfl⟩ := hrel
    have HJ := Lib.hid hj
    have NO := Lib.hid hno
    clear hj hno
    by_cases hlt : j < n
    · have hlt' : (j : Int) < n := by omega
      obtain ⟨b, off, z, rfl, hz, q0⟩ := HR.out.int_at hlt
      have HZ := Lib.hid hz
      clear hz
      by_cases hzx : x = z
      · have hzx' : (x == z) = true := by simp [hzx]
        have HZX := Lib.hid hzx
        clear hzx
        go_wp2
        go_ret
        have h1 : zs[j]? = some x := by rw [HZX.out]; exact HZ.out
        exact ⟨ret_int (by rw [placeI, if_pos (List.mem_of_getElem? h1), idxOf_at NO.out h1]), rfl⟩
      · have hzx' : (x == z) = false := by simp [hzx]
        have HZX := Lib.hid hzx
        clear hzx
        go_wp2
        go_roundg (n - (j + 1))
        case measure => have := HJ.out; omega
        case rel =>
          refine ⟨j + 1, by omega, by simp, ?_, rfl⟩
          rw [take_more HZ.out]
          intro hm
          rcases List.mem_append.1 hm with hm | hm
          · exact NO.out hm
          · simp at hm; exact HZX.out hm
    · have hlt' : ¬ (j : Int) < n := by omega
      go_wp2
      go_ret
      have := NO.out
      rw [List.take_of_length_le (by rw [HL.out]; omega)] at this
      exact ⟨ret_int (by rw [placeI, if_neg this]), rfl⟩

set_option maxHeartbeats 1000000 in
theorem cloneI_any (A : Option Addr) (n c : Nat) (zs : List Int) (w : World) (hr : RowR irec w A n zs) (hn : n ≤ 1000) :
    Calls Tryz.prog 172 #[.slice A n c] w fun r w' => ∃ A' c', r = .returned (.slice A' n c') ∧ RowR irec w' A' n zs ∧ n ≤ c' ∧ Fresh w.heap.size A' ∧ Below w.heap.size w w' := by
  cases A with
  | none =>
    have h0 : n = 0 := by
      rcases hr.2.2 with h | ⟨_, _, h, _⟩
      · exact h
      · cases h
    subst h0
    have HR := Lib.hid hr
    have hnil : ∀ w', (binOp .eql 31 (.slice none 0 c) (.slice none 0 0)).run Tryz.prog w' = .ok (.bool true) w' := run_isNil tI
    clear hr
    go_enter Tryz.func172, Tryz.ntmps172
    go_wp2
    go_ret
    exact ⟨none, 0, rfl, HR.out, Nat.le_refl _, Fresh.none _, Below.refl _ _⟩
  | some ad =>
    have HR := Lib.hid hr
    have HO : Hid (OwnR irec (w.alloc (.cells #[] 3)) w.heap.size 3 (.slice (some ⟨w.heap.size, 0, none⟩) 0 0) ([] : List Int)) := Lib.hid (OwnR.empty w _ (Nat.le_refl _))
    have HS := Lib.hid (hr.later (below_alloc w (.cells #[] 3)))
    have hnil : ∀ w', (binOp .eql 31 (.slice (some ad) n c) (.slice none 0 0)).run Tryz.prog w' = .ok (.bool false) w' := run_isNil tI
    clear hr
    go_enter Tryz.func172, Tryz.ntmps172
    go_wp2_with (first
      | (at_builtin; refine wpList_appS tI (base := w.heap.size) rfl (.tmp 5) (.tmp 6) rfl rfl rfl HO.out HS.out (by simp; omega) (by simp) ?_;
         intro v6 w6 own6 gr6 _; have b6 := Lib.hid ((below_alloc w _).trans (grown_low gr6 (by simp) HO.out.low));
         obtain ⟨A', n', c', hv6, r6, hn6, hc6, _⟩ := own6.row'; subst hv6; have R6 := Lib.hid r6; have N6 := Lib.hid own6.fresh; clear own6 gr6 r6))
    go_ret
    have hl := R6.out.1
    have hl2 := HR.out.1
    simp only [List.nil_append] at hl
    obtain rfl : n' = n := by omega
    exact ⟨A', c', rfl, R6.out, hc6, N6.out, b6.out⟩

set_option maxHeartbeats 1000000 in
theorem cloneM_any (A : Option Addr) (n c : Nat) (zs : List P2) (w : World) (hr : RowR prec w A n zs) (hn : n ≤ 1000) :
    Calls Tryz.prog 173 #[.slice A n c] w fun r w' => ∃ A' c', r = .returned (.slice A' n c') ∧ RowR prec w' A' n zs ∧ n ≤ c' ∧ Fresh w.heap.size A' ∧ Below w.heap.size w w' := by
  cases A with
  | none =>
    have h0 : n = 0 := by
      rcases hr.2.2 with h | ⟨_, _, h, _⟩
      · exact h
      · cases h
    subst h0
    have HR := Lib.hid hr
    have hnil : ∀ w', (binOp .eql 89 (.slice none 0 c) (.slice none 0 0)).run Tryz.prog w' = .ok (.bool true) w' := run_isNil tM
    clear hr
    go_enter Tryz.func173, Tryz.ntmps173
    go_wp2
    go_ret
    exact ⟨none, 0, rfl, HR.out, Nat.le_refl _, Fresh.none _, Below.refl _ _⟩
  | some ad =>
    have HR := Lib.hid hr
    have HO : Hid (OwnR prec (w.alloc (.cells #[] 185)) w.heap.size 185 (.slice (some ⟨w.heap.size, 0, none⟩) 0 0) ([] : List P2)) := Lib.hid (OwnR.empty w _ (Nat.le_refl _))
    have HS := Lib.hid (hr.later (below_alloc w (.cells #[] 185)))
    have hnil : ∀ w', (binOp .eql 89 (.slice (some ad) n c) (.slice none 0 0)).run Tryz.prog w' = .ok (.bool false) w' := run_isNil tM
    clear hr
    go_enter Tryz.func173, Tryz.ntmps173
    go_wp2_with (first
      | (at_builtin; refine wpList_appS tM (base := w.heap.size) rfl (.tmp 5) (.tmp 6) rfl rfl rfl HO.out HS.out (by simp; omega) (by simp) ?_;
         intro v6 w6 own6 gr6 _; have b6 := Lib.hid ((below_alloc w _).trans (grown_low gr6 (by simp) HO.out.low));
         obtain ⟨A', n', c', hv6, r6, hn6, hc6, _⟩ := own6.row'; subst hv6; have R6 := Lib.hid r6; have N6 := Lib.hid own6.fresh; clear own6 gr6 r6))
    go_ret
    have hl := R6.out.1
    have hl2 := HR.out.1
    simp only [List.nil_append] at hl
    obtain rfl : n' = n := by omega
    exact ⟨A', c', rfl, R6.out, hc6, N6.out, b6.out⟩

set_option maxHeartbeats 1000000 in
theorem bone_any (id x : Int) (hi : wf64 id) (w : World) :
    Calls Tryz.prog 76 #[.int .i64 id, .int .i64 x] w fun r w' => ∃ A c M d, r = .returned (batV A 1 c M 1 d) ∧ Bat w' A 1 c M 1 d [x] [⟨id, 0⟩] ∧ (Fresh w.heap.size A ∧ Fresh w.heap.size M) ∧ Below w.heap.size w w' := by
  go_enter Tryz.func76, Tryz.ntmps76
  go_wp2
  generalize hw1 : w.alloc (bobj 91 (some ⟨w.heap.size + 1, 0, none⟩) 1 1 (some ⟨w.heap.size + 1 + 1, 0, none⟩) 1 1) = w1
  have e1 : w1.heap.size = w.heap.size + 1 := by rw [← hw1]; simp
  have k1 : w1.heap[w.heap.size]? = some (bobj 91 (some ⟨w.heap.size + 1, 0, none⟩) 1 1 (some ⟨w.heap.size + 1 + 1, 0, none⟩) 1 1) := by rw [← hw1]; exact heap_alloc_at w _
  have b1 : Below w.heap.size w w1 := by rw [← hw1]; exact below_alloc w _
  clear hw1
  have r2 := RowR.one (R := irec) w1 x 3 (cs := #[.int .i64 x]) rfl
  have b2 := below_alloc w1 (.cells #[.int .i64 x] 3)
  have e2 : (w1.alloc (.cells #[.int .i64 x] 3)).heap.size = w1.heap.size + 1 := by simp
  generalize w1.alloc (.cells #[.int .i64 x] 3) = w2 at *
  have r3 := RowR.one (R := prec) w2 ⟨id, 0⟩ 185 (cs := #[.int .i64 id, .int .i64 0]) rfl
  have b3 := below_alloc w2 (.cells #[.int .i64 id, .int .i64 0] 185)
  generalize w2.alloc (.cells #[.int .i64 id, .int .i64 0] 185) = w3 at *
  rw [e2, e1] at r3
  rw [e1] at r2
  refine bodyPost_ret (v := batV (some ⟨w.heap.size + 1, 0, none⟩) 1 1 (some ⟨w.heap.size + 1 + 1, 0, none⟩) 1 1) (results_agg Tryz.results76 rfl (loadB (kb_below (kb_below k1 b2) b3))) rfl ?_
  refine ⟨_, _, _, _, rfl, ⟨r2.later b3, r3, Nat.le_refl _, Nat.le_refl _, ?_⟩, ⟨Fresh.at_ (by omega), Fresh.at_ (by omega)⟩, b1.trans ((b2.trans (b3.mono b2.size)).mono b1.size)⟩
  intro y hy
  rw [List.mem_singleton.1 hy]
  exact ⟨hi, wf64_lit (k := 0) (by decide) (by decide)⟩

def leadL (ms : List P2) : Int := (ms[0]?.map P2.a).getD 0
set_option maxHeartbeats 1000000 in
theorem blead_any (A : Option Addr) (n c : Nat) (M : Option Addr) (m d : Nat) (zs : List Int) (ms : List P2) (w : World) (h : Bat w A n c M m d zs ms) :
    Calls Tryz.prog 73 #[batV A n c M m d] w fun r w' => r = .returned (.int .i64 (leadL ms)) ∧ Below w.heap.size w w' := by
  have HL := Lib.hid h.mlen
  by_cases hm : m = 0
  · have hm' : ((m : Int) == 0) = true := by simp [hm]
    clear h
    go_enter Tryz.func73, Tryz.ntmps73
    go_wp2
    go_ret
    refine ⟨ret_int ?_, below_alloc w _⟩
    have : ms = [] := List.eq_nil_of_length_eq_zero (by rw [HL.out, hm])
    subst this
    rfl
  · have hm' : ((m : Int) == 0) = false := by simp [hm]
    have hm2 : (0 : Int) < m := by omega
    obtain ⟨b, off, x, rfl, hx, c0, _⟩ := h.mr.pair_at (i := 0) (by omega)
    have c0' : (w.alloc (.cells #[.slice A n c, .slice (some ⟨b, off, none⟩) m d] 91)).cell? ⟨b, off, none⟩ = some (.int .i64 x.a) := cell_alloc (by simpa using c0) _
    have HX := Lib.hid hx
    clear h hx c0 hm
    go_enter Tryz.func73, Tryz.ntmps73
    go_wp2
    go_ret
    refine ⟨ret_int ?_, below_alloc w _⟩
    simp [leadL, HX.out]
end Go.Proofs.YtgnccpmkdgfjeaaGreat

namespace Go.Proofs.YtgnccpmkdgfjeaaGreat
set_option linter.unusedVariables false
open Go.ChangeShapes Go.WideShapes Go.ChangeAt Go.RowKit

theorem sets_b {w : World} {g : Nat} {ty : TypeId} {A M : Option Addr} {n c m d : Nat} (h : w.heap[g]? = some (bobj ty A n c M m d)) (A' M' : Option Addr) (n' c' m' d' : Nat) :
    ((w.setCell ⟨g, 0, none⟩ (.slice A' n' c')).setCell ⟨g, 1, none⟩ (.slice M' m' d')).heap[g]? = some (bobj ty A' n' c' M' m' d') := by
  rw [heap_set_same (heap_set_same h _)]
  rfl
theorem sets_bfrm (w : World) (g : Nat) (u0 u1 : Value) : Frm (· = g) w ((w.setCell ⟨g, 0, none⟩ u0).setCell ⟨g, 1, none⟩ u1) :=
  ((Frm.refl (· = g) w).set (F := (· = g)) (p := ⟨g, 0, none⟩) rfl u0).set (F := (· = g)) (p := ⟨g, 1, none⟩) rfl u1
theorem sizeB : (Tryz.prog.info? 91).map (·.size) = some 2 := by kernel_rfl
theorem onesB (A M : Option Addr) (n c m d : Nat) : Ones [.slice A n c, .slice M m d] := by intro v hv; simp at hv; rcases hv with rfl | rfl <;> rfl
/-- Two new blocks. -/
theorem two_new (w : World) (o o' : Obj) : ∃ W, (w.alloc o).alloc o' = W ∧ Below w.heap.size w W ∧ W.heap[w.heap.size]? = some o ∧ W.heap[w.heap.size + 1]? = some o' ∧ W.heap.size = w.heap.size + 2 := by
  refine ⟨_, rfl, (below_alloc w o).trans ((below_alloc _ o').mono (by simp)), kb_alloc (heap_alloc_at w o) o', ?_, by simp⟩
  have := heap_alloc_at (w.alloc o) o'
  rwa [show (w.alloc o).heap.size = w.heap.size + 1 by simp] at this
/-- What Add makes of a batch, and its word. -/
def addY (zs : List Int) (x most : Int) : Bool := decide (x ∈ zs ∨ ¬ most ≤ (zs.length : Int))
def addA (zs : List Int) (x most : Int) : List Int := if x ∈ zs then zs else if most ≤ (zs.length : Int) then zs else zs ++ [x]
def addM (zs : List Int) (ms : List P2) (id x most : Int) : List P2 := if x ∈ zs ∨ ¬ most ≤ (zs.length : Int) then ms ++ [⟨id, (zs.idxOf x : Int)⟩] else ms
theorem fits_snoc {ms : List P2} {x : P2} (h : ∀ y ∈ ms, y.Fits) (hx : x.Fits) : ∀ y ∈ ms ++ [x], y.Fits := fun y hy => by
  rcases List.mem_append.1 hy with hy | hy
  · exact h y hy
  · rw [List.mem_singleton.1 hy]; exact hx
theorem wf_small {k : Nat} (h : k ≤ 1000) : wf64 (k : Int) := ⟨by omega, by omega⟩
/-- A batch's cells stay. -/
theorem cells_later {w w' : World} {g : Nat} {ty : TypeId} {A M : Option Addr} {n c m d : Nat} (h : w.heap[g]? = some (bobj ty A n c M m d)) (hb : Below w.heap.size w w') : w'.cell? ⟨g, 0, none⟩ = some (.slice A n c) ∧ w'.cell? ⟨g, 1, none⟩ = some (.slice M m d) := bobj_cells (kb_below h hb)
/-- A batch's block holds no integers: rows of them are elsewhere. -/
theorem RowR.stayI {w w' : World} {A : Option Addr} {n g : Nat} {V : List Int} {ty : TypeId} {A' M' : Option Addr} {n' c' m' d' : Nat} (h : RowR irec w A n V) (hf : Frm (· = g) w w') (hg : w.heap[g]? = some (bobj ty A' n' c' M' m' d')) : RowR irec w' A n V := by
  by_cases h0 : n = 0
  · exact ⟨h.1, h.2.1, .inl h0⟩
  · obtain ⟨b, off, z, e, _, hc⟩ := h.int_at (i := 0) (by omega)
    refine h.frm hf (fun b' off' e' he => ?_)
    rw [e] at e'
    cases e'
    rw [show b = g from he, cell_of hg] at hc
    match off, hc with
    | 0, hc => simp at hc
    | 1, hc => simp at hc
    | k + 2, hc => simp at hc
theorem RowR.stayP {w w' : World} {A : Option Addr} {n g : Nat} {V : List P2} {ty : TypeId} {A' M' : Option Addr} {n' c' m' d' : Nat} (h : RowR prec w A n V) (hf : Frm (· = g) w w') (hg : w.heap[g]? = some (bobj ty A' n' c' M' m' d')) : RowR prec w' A n V := by
  by_cases h0 : n = 0
  · exact ⟨h.1, h.2.1, .inl h0⟩
  · obtain ⟨b, off, z, e, _, hc, _⟩ := h.pair_at (i := 0) (by omega)
    refine h.frm hf (fun b' off' e' he => ?_)
    rw [e] at e'
    cases e'
    rw [show b = g from he, cell_of hg] at hc
    match off, hc with
    | 0, hc => simp at hc
    | 1, hc => simp at hc
    | k + 2, hc => simp at hc
theorem Bat.stay {w w' : World} {A M : Option Addr} {n c m d g : Nat} {zs : List Int} {ms : List P2} {ty : TypeId} {A' M' : Option Addr} {n' c' m' d' : Nat} (h : Bat w A n c M m d zs ms) (hf : Frm (· = g) w w') (hg : w.heap[g]? = some (bobj ty A' n' c' M' m' d')) : Bat w' A n c M m d zs ms :=
  ⟨h.ar.stayI hf hg, h.mr.stayP hf hg, h.nc, h.md, h.fits⟩

end Go.Proofs.YtgnccpmkdgfjeaaGreat

namespace Go.Proofs.YtgnccpmkdgfjeaaGreat
set_option linter.unusedVariables false
open Go.ChangeShapes Go.WideShapes Go.ChangeAt Go.RowKit

/-- How far a call is, its step, why it failed, since when it is. -/
structure CN where
  st : Int
  sp : Int
  ca : Int
  tm : Int
namespace CN
structure Fits (K : CN) : Prop where
  st : wf64 K.st
  sp : wf64 K.sp
  ca : wf64 K.ca
  tm : 0 ≤ K.tm ∧ K.tm ≤ 18446744073709551615
def new (t : Int) : CN := ⟨1, 0, 0, t⟩
def runs (K : CN) : Bool := decide (K.st = 1)
def run (K : CN) : CN := if K.st = 1 then ⟨2, K.sp, K.ca, K.tm⟩ else K
def ends (K : CN) : Bool := decide (1 ≤ K.st ∧ K.st ≤ 3)
def fin (K : CN) : CN := if 1 ≤ K.st ∧ K.st ≤ 3 then ⟨4, K.sp, K.ca, K.tm⟩ else K
def why (K : CN) (z : Int) : Int := if K.st = 3 then K.ca else z
def fails (K : CN) (c : Int) : Bool := decide ((1 ≤ K.st ∧ K.st ≤ 3) ∧ K.sp < c)
def fail (K : CN) (z c : Int) : CN := if 1 ≤ K.st ∧ K.st ≤ 3 then (if K.sp < c then ⟨3, K.sp + 1, K.why z, K.tm⟩ else ⟨4, K.sp, K.why z, K.tm⟩) else K
end CN
/-- A call by value. -/
abbrev kvals (A : Option Addr) (n c : Nat) (M : Option Addr) (m d : Nat) (K : CN) : List Value := [.slice A n c, .slice M m d, .int .i64 K.st, .int .i64 K.sp, .int .i64 K.ca, .int .u64 K.tm]
abbrev callV (A : Option Addr) (n c : Nat) (M : Option Addr) (m d : Nat) (K : CN) : Value := .agg #[.slice A n c, .slice M m d, .int .i64 K.st, .int .i64 K.sp, .int .i64 K.ca, .int .u64 K.tm]
abbrev kobj (A : Option Addr) (n c : Nat) (M : Option Addr) (m d : Nat) (K : CN) : Obj := vobj 135 (kvals A n c M m d K)
theorem undCL : ∃ fs, Tryz.prog.underlying 135 = some (.struct fs) := ⟨_, Tryz.underlying135⟩
theorem sizeCL : (Tryz.prog.info? 135).map (·.size) = some 6 := by kernel_rfl
theorem sizeKB : (Tryz.prog.info? 91).map (·.size) = some 2 := by kernel_rfl
theorem size1i : (Tryz.prog.info? 3).map (·.size) = some 1 := by kernel_rfl
theorem onesK (A M : Option Addr) (n c m d : Nat) (K : CN) : Ones (kvals A n c M m d K) := by intro v hv; simp at hv; rcases hv with rfl | rfl | rfl | rfl | rfl | rfl <;> rfl
theorem onesKB (A M : Option Addr) (n c m d : Nat) : Ones [.slice A n c, .slice M m d] := by intro v hv; simp at hv; rcases hv with rfl | rfl <;> rfl
theorem loadCL {w : World} {g : Nat} {vs : List Value} (h : w.heap[g]? = some (vobj 135 vs)) (hl : vs.length = 6) : (loadVar 135 ⟨g, 0, none⟩).run Tryz.prog w = .ok (.agg (aggV vs)) w := by
  obtain ⟨fs, hu⟩ := undCL
  exact run_load_agg w _ g vs _ h hu rfl (by rw [hl]; exact sizeCL)
/-- Rows that lie behind a block stay, whatever becomes of the block. -/
theorem Bat.behind {w w' : World} {A M : Option Addr} {n c m d b : Nat} {zs : List Int} {ms : List P2} (h : Bat w A n c M m d zs ms) (hA : Fresh (b + 1) A) (hM : Fresh (b + 1) M) (hf : Frm (· = b) w w') : Bat w' A n c M m d zs ms :=
  ⟨h.ar.apart hf (fun x off e _ hx => by have := hA x off e; omega), h.mr.apart hf (fun x off e _ hx => by have := hM x off e; omega), h.nc, h.md, h.fits⟩

set_option maxRecDepth 100000 in
set_option maxHeartbeats 2000000 in
theorem kown_any (A : Option Addr) (n c : Nat) (M : Option Addr) (m d : Nat) (zs : List Int) (ms : List P2) (w : World) (h : Bat w A n c M m d zs ms) (hn : n ≤ 1000) (hm : m ≤ 1000) :
    Calls Tryz.prog 137 #[batV A n c M m d] w fun r w' => ∃ A' c' M' d', r = .returned (batV A' n c' M' m d') ∧ Bat w' A' n c' M' m d' zs ms ∧ (Fresh w.heap.size A' ∧ Fresh w.heap.size M') ∧ Below w.heap.size w w' := by
  have h1 : ∀ wx, Below w.heap.size w wx → Calls Tryz.prog 172 #[.slice A n c] wx fun r w' => ∃ A' c', r = .returned (.slice A' n c') ∧ RowR irec w' A' n zs ∧ n ≤ c' ∧ Fresh wx.heap.size A' ∧ Below wx.heap.size wx w' := fun wx hb => cloneI_any A n c zs wx (h.ar.later hb) hn
  have h2 : ∀ wx, Below w.heap.size w wx → Calls Tryz.prog 173 #[.slice M m d] wx fun r w' => ∃ A' c', r = .returned (.slice A' m c') ∧ RowR prec w' A' m ms ∧ m ≤ c' ∧ Fresh wx.heap.size A' ∧ Below wx.heap.size wx w' := fun wx hb => cloneM_any M m d ms wx (h.mr.later hb) hm
  have HB := Lib.hid h
  have H1 := Lib.hid h1
  have H2 := Lib.hid h2
  clear h h1 h2
  obtain ⟨V, hW, hb, k0, k1, hsz⟩ := two_new w (bobj 91 A n c M m d) (bobj 91 none 0 0 none 0 0)
  have B0' := Lib.hid hb
  have K0' := Lib.hid k0
  have K1' := Lib.hid k1
  have HW := Lib.hid hW
  clear hb k0 k1 hW hsz
  go_enter Tryz.func137, Tryz.ntmps137
  go_wp2
  rw [HW.out]
  clear HW
  have hs : ∀ wx, Below V.heap.size V wx → wx.cell? ⟨w.heap.size, 0, none⟩ = some (.slice A n c) ∧ wx.cell? ⟨w.heap.size, 1, none⟩ = some (.slice M m d) := fun wx hb => cells_later K0'.out hb
  have hst : ∀ (wx : World) (u v : Value), Below V.heap.size V wx → ((wx.setCell ⟨w.heap.size + 1, 0, none⟩ u).setCell ⟨w.heap.size + 1, 1, none⟩ v).cell? ⟨w.heap.size, 0, none⟩ = some (.slice A n c) ∧ ((wx.setCell ⟨w.heap.size + 1, 0, none⟩ u).setCell ⟨w.heap.size + 1, 1, none⟩ v).cell? ⟨w.heap.size, 1, none⟩ = some (.slice M m d) := fun wx u v hb => by
    have h0 := kb_below K0'.out hb
    exact bobj_cells (((sets_bfrm wx (w.heap.size + 1) u v).block w.heap.size (heap_lt h0) (by show ¬ (w.heap.size = w.heap.size + 1); omega)).trans h0)
  have HS := Lib.hid hs
  have HT := Lib.hid hst
  have D0 : Hid (Below V.heap.size V V.drew) := Lib.hid (ali_below (drew_ali _))
  clear hs hst
  go_region_held3 (fun wx => wx.cell? ⟨w.heap.size, 0, none⟩ = some (.slice A n c) ∧ wx.cell? ⟨w.heap.size, 1, none⟩ = some (.slice M m d))
    (first
      | with_reducible exact HS.out _ D0.out
      | with_reducible exact HS.out _ t5
      | with_reducible exact HS.out _ t4
      | (have tk := t5; exact HT.out _ _ _ tk))
    (first
      | (go_at_call 173; refine (H2.out _ (B0'.out.trans (t4.mono B0'.out.size))).mono ?_; rintro r w5 ⟨M5, d5, rfl, r5, k5, n5, b5⟩; have t5 := t4.trans (b5.mono t4.size); have N5 := Lib.hid (n5.mono (Nat.le_trans B0'.out.size t4.size)); clear n5; have R4' := Lib.hid (R4.out.later b5); have R5 := Lib.hid r5;
         have y5 := kb_below K1'.out t5; obtain ⟨y0, y1⟩ := bobj_cells y5; have yf0 := frozen_of y5 0; have yf1 := frozen_of y5 1; have Y5 := Lib.hid y5; clear r5 b5 y5)
      | (go_at_call 172; refine (H1.out _ (B0'.out.trans (D0.out.mono B0'.out.size))).mono ?_; rintro r w4 ⟨A4, c4, rfl, r4, k4, n4, b4⟩; have N4 := Lib.hid (n4.mono (Nat.le_trans B0'.out.size D0.out.size)); clear n4; have t4 := D0.out.trans (b4.mono D0.out.size); have R4 := Lib.hid r4; clear r4 b4))
  all_goals
    have h8 := sets_b Y5.out A4 M5 n c4 m d5
    have f8 := sets_bfrm w5 (w.heap.size + 1) (.slice A4 n c4) (.slice M5 m d5)
    have H8 := Lib.hid h8
    have T5 := Lib.hid t5
    have F8 := Lib.hid f8
    clear h8 f8 y0 y1 yf0 yf1 t4 t5
    generalize ((w5.setCell ⟨w.heap.size + 1, 0, none⟩ (.slice A4 n c4)).setCell ⟨w.heap.size + 1, 1, none⟩ (.slice M5 m d5)) = w8 at *
    go_wp2
    refine bodyPost_ret (v := batV A4 n c4 M5 m d5) (results_agg Tryz.results137 rfl (loadB H8.out)) rfl ?_
    have hb := B0'.out.size
    have hlt : w.heap.size + 1 < w5.heap.size := heap_lt Y5.out
    have B5 : Below w.heap.size w w5 := B0'.out.trans (T5.out.mono B0'.out.size)
    have B8 : Below w.heap.size w w8 := B5.trans (F8.out.below (by omega) (fun j hj e => by rw [e] at hj; omega))
    exact ⟨_, _, _, _, rfl, ⟨R4'.out.stayI F8.out Y5.out, R5.out.stayP F8.out Y5.out, k4, k5, HB.out.fits⟩, ⟨N4.out, N5.out⟩, B8⟩

set_option maxRecDepth 100000 in
set_option maxHeartbeats 2000000 in
theorem kbegin_any (A : Option Addr) (n c : Nat) (M : Option Addr) (m d : Nat) (t : Int) (zs : List Int) (ms : List P2) (w : World) (h : Bat w A n c M m d zs ms) (hn : n ≤ 1000) (hm : m ≤ 1000) :
    Calls Tryz.prog 75 #[batV A n c M m d, .int .u64 t] w fun r w' => ∃ A' c' M' d', r = .returned (callV A' n c' M' m d' (CN.new t)) ∧ Bat w' A' n c' M' m d' zs ms ∧ (Fresh w.heap.size A' ∧ Fresh w.heap.size M') ∧ Below w.heap.size w w' := by
  obtain ⟨W, hW, hb, k0, k1, hsz⟩ := two_new w (bobj 91 A n c M m d) (kobj none 0 0 none 0 0 ⟨0, 0, 0, 0⟩)
  have HO := Lib.hid (kown_any A n c M m d zs ms W (h.below hb) hn hm)
  have HW : Hid ((w.alloc (.cells #[.slice A n c, .slice M m d] 91)).alloc (.cells #[.slice none 0 0, .slice none 0 0, .int .i64 0, .int .i64 0, .int .i64 0, .int .u64 0] 135) = W) := Lib.hid hW
  obtain ⟨q0, q1⟩ := bobj_cells k0
  have B0 := Lib.hid hb
  have K1 := Lib.hid k1
  have SZ := Lib.hid hsz
  clear hW hb k0 k1 hsz h hn hm
  go_enter Tryz.func75, Tryz.ntmps75
  go_wp2_with fail
  rw [HW.out]
  refine HO.out.mono ?_
  rintro r V ⟨A', c', M', d', rfl, hbat, ⟨hfA, hfM⟩, bV⟩
  have K1v := Lib.hid (kb_below K1.out bV)
  have BV := Lib.hid (B0.out.trans (bV.mono B0.out.size))
  have SV : Hid (w.heap.size + 2 ≤ V.heap.size) := Lib.hid (by have := bV.size; have := SZ.out; omega)
  have FA : Hid (Fresh (w.heap.size + 2) A') := Lib.hid (hfA.mono (by have := SZ.out; omega))
  have FM : Hid (Fresh (w.heap.size + 2) M') := Lib.hid (hfM.mono (by have := SZ.out; omega))
  have HB := Lib.hid hbat
  clear q0 q1 hbat hfA hfM bV HO HW K1 B0
  go_wp2_with (first
    | (refine wpList_store_agg rfl 135 _ _ rfl (w.heap.size + 1) (kvals none 0 0 none 0 0 ⟨0, 0, 0, 0⟩) (kvals A' n c' M' m d' (CN.new t)) rfl rfl ?hz rfl sizeCL (onesK _ _ _ _ _ _ _) ?_; (case hz => exact K1v.out); intro w9 k9 f9 _; have K9 := Lib.hid k9; have F9 := Lib.hid f9; clear k9 f9))
  refine bodyPost_ret (v := callV A' n c' M' m d' (CN.new t)) (results_agg Tryz.results75 rfl (loadCL K9.out rfl)) rfl ?_
  have hsv := SV.out
  have b2 : Bat w9 A' n c' M' m d' zs ms := HB.out.behind (FA.out.mono (by omega)) (FM.out.mono (by omega)) F9.out
  have bl : Below w.heap.size w w9 := BV.out.trans (F9.out.below BV.out.size (fun j hj e => by omega))
  exact ⟨_, _, _, _, rfl, b2, ⟨FA.out.mono (by omega), FM.out.mono (by omega)⟩, bl⟩

set_option maxRecDepth 100000 in
set_option maxHeartbeats 2000000 in
theorem krun_any (A : Option Addr) (n c : Nat) (M : Option Addr) (m d : Nat) (K : CN) (zs : List Int) (ms : List P2) (w : World) (h : Bat w A n c M m d zs ms) (hn : n ≤ 1000) (hm : m ≤ 1000) :
    Calls Tryz.prog 140 #[callV A n c M m d K] w fun r w' => ∃ A' c' M' d', r = .returned (.tuple #[callV A' n c' M' m d' K.run, .bool K.runs]) ∧ Bat w' A' n c' M' m d' zs ms ∧ (Fresh w.heap.size A' ∧ Fresh w.heap.size M') ∧ Below w.heap.size w w' := by
  obtain ⟨W, hW, hb, k0, k1, hsz⟩ := two_new w (kobj A n c M m d K) (kobj none 0 0 none 0 0 ⟨0, 0, 0, 0⟩)
  have HO := Lib.hid (kown_any A n c M m d zs ms W (h.below hb) hn hm)
  have HW : Hid ((w.alloc (.cells #[.slice A n c, .slice M m d, .int .i64 K.st, .int .i64 K.sp, .int .i64 K.ca, .int .u64 K.tm] 135)).alloc (.cells #[.slice none 0 0, .slice none 0 0, .int .i64 0, .int .i64 0, .int .i64 0, .int .u64 0] 135) = W) := Lib.hid hW
  have q0 : W.cell? ⟨w.heap.size, 0, none⟩ = some (.slice A n c) := vobj_cell k0 rfl
  have q1 : W.cell? ⟨w.heap.size, 1, none⟩ = some (.slice M m d) := vobj_cell k0 rfl
  have B0 := Lib.hid hb
  have K0 := Lib.hid k0
  have K1 := Lib.hid k1
  have SZ := Lib.hid hsz
  obtain ⟨fs, hu⟩ := undCL
  have HU := Lib.hid hu
  clear hW hb k0 k1 hsz hu h hn hm
  by_cases hs : K.st = 1
  · have e1 : (K.st != 1) = false := by simp [hs]
    rw [show K.run = ⟨2, K.sp, K.ca, K.tm⟩ by simp [CN.run, hs], show K.runs = true by simp [CN.runs, hs]]
    clear hs
    go_enter Tryz.func140, Tryz.ntmps140
    go_wp2_with fail
    rw [HW.out]
    refine HO.out.mono ?_
    rintro r V ⟨A', c', M', d', rfl, hbat, ⟨hfA, hfM⟩, bV⟩
    have K0v := Lib.hid (kb_below K0.out bV)
    have K1v := Lib.hid (kb_below K1.out bV)
    have BV := Lib.hid (B0.out.trans (bV.mono B0.out.size))
    have SV : Hid (w.heap.size + 2 ≤ V.heap.size) := Lib.hid (by have := bV.size; have := SZ.out; omega)
    have FA : Hid (Fresh (w.heap.size + 2) A') := Lib.hid (hfA.mono (by have := SZ.out; omega))
    have FM : Hid (Fresh (w.heap.size + 2) M') := Lib.hid (hfM.mono (by have := SZ.out; omega))
    have HB := Lib.hid hbat
    clear q0 q1 hbat hfA hfM bV HO HW K0 K1 B0
    go_wp2_with (first
      | (refine wpList_store_part rfl 91 _ _ rfl w.heap.size 0 135 (kvals A n c M m d K) [.slice A' n c', .slice M' m d'] rfl rfl ?hz (by show 0 + 2 ≤ 6; decide) sizeKB (onesKB _ _ _ _ _ _) ?_; (case hz => exact K0v.out); intro w5 k5 f5 _;
         have K5 : Hid (w5.heap[w.heap.size]? = some (kobj A' n c' M' m d' K)) := Lib.hid k5; have F5 := Lib.hid f5; have Z5 := Lib.hid ((f5.block (w.heap.size + 1) (heap_lt K1v.out) (by show ¬ w.heap.size + 1 = w.heap.size; omega)).trans K1v.out);
         have p2 : w5.cell? ⟨w.heap.size, 2, none⟩ = some (.int .i64 K.st) := vobj_cell K5.out rfl; have p3 : w5.cell? ⟨w.heap.size, 3, none⟩ = some (.int .i64 K.sp) := vobj_cell K5.out rfl; clear k5 f5)
      | (refine wpList_store_one rfl 3 _ _ rfl w.heap.size 2 135 (kvals A' n c' M' m d' K) (.int .i64 2) rfl rfl ?hz (by show 2 < 6; decide) size1i rfl rfl ?_; (case hz => exact K5.out); intro w6 k6 f6 _;
         have K6 : Hid (w6.heap[w.heap.size]? = some (kobj A' n c' M' m d' ⟨2, K.sp, K.ca, K.tm⟩)) := Lib.hid k6; have F6 := Lib.hid f6; have Z6 := Lib.hid ((f6.block (w.heap.size + 1) (heap_lt Z5.out) (by show ¬ w.heap.size + 1 = w.heap.size; omega)).trans Z5.out);
         have p3 : w6.cell? ⟨w.heap.size, 3, none⟩ = some (.int .i64 K.sp) := vobj_cell K6.out rfl; clear k6 f6)
      | (refine wpList_load_agg rfl 135 _ rfl w.heap.size rfl (kvals A' n c' M' m d' ⟨2, K.sp, K.ca, K.tm⟩) ?hz _ HU.out rfl sizeCL ?_; (case hz => exact K6.out))
      | (refine wpList_store_agg rfl 135 _ _ rfl (w.heap.size + 1) (kvals none 0 0 none 0 0 ⟨0, 0, 0, 0⟩) (kvals A' n c' M' m d' ⟨2, K.sp, K.ca, K.tm⟩) rfl rfl ?hz rfl sizeCL (onesK _ _ _ _ _ _ _) ?_; (case hz => exact Z6.out); intro w9 k9 f9 _; have K9 := Lib.hid k9; have F9 := Lib.hid f9; clear k9 f9))
    refine bodyPost_ret (v := .tuple #[callV A' n c' M' m d' ⟨2, K.sp, K.ca, K.tm⟩, .bool true]) (results_agg1 Tryz.results140 rfl (loadCL K9.out rfl) rfl) rfl ?_
    have fs : Frm (· = w.heap.size) V w6 := (F5.out).trans F6.out (fun _ _ e => e)
    have hsv := SV.out
    have b1 : Bat w6 A' n c' M' m d' zs ms := HB.out.behind (FA.out.mono (by omega)) (FM.out.mono (by omega)) fs
    have b2 : Bat w9 A' n c' M' m d' zs ms := b1.behind (FA.out.mono (by omega)) (FM.out.mono (by omega)) F9.out
    have bl : Below w.heap.size w w9 := (BV.out.trans (fs.below BV.out.size (fun j hj e => by omega))).trans (F9.out.below (by have := fs.size; have := BV.out.size; omega) (fun j hj e => by omega))
    exact ⟨_, _, _, _, rfl, b2, ⟨FA.out.mono (by omega), FM.out.mono (by omega)⟩, bl⟩
  · have e1 : (K.st != 1) = true := by simp [hs]
    rw [show K.run = K by simp [CN.run, hs], show K.runs = false by simp [CN.runs, hs]]
    clear hs
    go_enter Tryz.func140, Tryz.ntmps140
    go_wp2_with fail
    rw [HW.out]
    refine HO.out.mono ?_
    rintro r V ⟨A', c', M', d', rfl, hbat, ⟨hfA, hfM⟩, bV⟩
    have K0v := Lib.hid (kb_below K0.out bV)
    have K1v := Lib.hid (kb_below K1.out bV)
    have BV := Lib.hid (B0.out.trans (bV.mono B0.out.size))
    have SV : Hid (w.heap.size + 2 ≤ V.heap.size) := Lib.hid (by have := bV.size; have := SZ.out; omega)
    have FA : Hid (Fresh (w.heap.size + 2) A') := Lib.hid (hfA.mono (by have := SZ.out; omega))
    have FM : Hid (Fresh (w.heap.size + 2) M') := Lib.hid (hfM.mono (by have := SZ.out; omega))
    have HB := Lib.hid hbat
    clear q0 q1 hbat hfA hfM bV HO HW K0 K1 B0
    go_wp2_with (first
      | (refine wpList_store_part rfl 91 _ _ rfl w.heap.size 0 135 (kvals A n c M m d K) [.slice A' n c', .slice M' m d'] rfl rfl ?hz (by show 0 + 2 ≤ 6; decide) sizeKB (onesKB _ _ _ _ _ _) ?_; (case hz => exact K0v.out); intro w5 k5 f5 _;
         have K5 : Hid (w5.heap[w.heap.size]? = some (kobj A' n c' M' m d' K)) := Lib.hid k5; have F5 := Lib.hid f5; have Z5 := Lib.hid ((f5.block (w.heap.size + 1) (heap_lt K1v.out) (by show ¬ w.heap.size + 1 = w.heap.size; omega)).trans K1v.out);
         have p2 : w5.cell? ⟨w.heap.size, 2, none⟩ = some (.int .i64 K.st) := vobj_cell K5.out rfl; have p3 : w5.cell? ⟨w.heap.size, 3, none⟩ = some (.int .i64 K.sp) := vobj_cell K5.out rfl; clear k5 f5)
      | (refine wpList_load_agg rfl 135 _ rfl w.heap.size rfl (kvals A' n c' M' m d' K) ?hz _ HU.out rfl sizeCL ?_; (case hz => exact K5.out))
      | (refine wpList_store_agg rfl 135 _ _ rfl (w.heap.size + 1) (kvals none 0 0 none 0 0 ⟨0, 0, 0, 0⟩) (kvals A' n c' M' m d' K) rfl rfl ?hz rfl sizeCL (onesK _ _ _ _ _ _ _) ?_; (case hz => exact Z5.out); intro w9 k9 f9 _; have K9 := Lib.hid k9; have F9 := Lib.hid f9; clear k9 f9))
    refine bodyPost_ret (v := .tuple #[callV A' n c' M' m d' K, .bool false]) (results_agg1 Tryz.results140 rfl (loadCL K9.out rfl) rfl) rfl ?_
    have fs : Frm (· = w.heap.size) V w5 := F5.out
    have hsv := SV.out
    have b1 : Bat w5 A' n c' M' m d' zs ms := HB.out.behind (FA.out.mono (by omega)) (FM.out.mono (by omega)) fs
    have b2 : Bat w9 A' n c' M' m d' zs ms := b1.behind (FA.out.mono (by omega)) (FM.out.mono (by omega)) F9.out
    have bl : Below w.heap.size w w9 := (BV.out.trans (fs.below BV.out.size (fun j hj e => by omega))).trans (F9.out.below (by have := fs.size; have := BV.out.size; omega) (fun j hj e => by omega))
    exact ⟨_, _, _, _, rfl, b2, ⟨FA.out.mono (by omega), FM.out.mono (by omega)⟩, bl⟩

set_option maxRecDepth 100000 in
set_option maxHeartbeats 2000000 in
theorem kend_any (A : Option Addr) (n c : Nat) (M : Option Addr) (m d : Nat) (K : CN) (zs : List Int) (ms : List P2) (w : World) (h : Bat w A n c M m d zs ms) (hn : n ≤ 1000) (hm : m ≤ 1000) :
    Calls Tryz.prog 128 #[callV A n c M m d K] w fun r w' => ∃ A' c' M' d', r = .returned (.tuple #[callV A' n c' M' m d' K.fin, .bool K.ends]) ∧ Bat w' A' n c' M' m d' zs ms ∧ (Fresh w.heap.size A' ∧ Fresh w.heap.size M') ∧ Below w.heap.size w w' := by
  obtain ⟨W, hW, hb, k0, k1, hsz⟩ := two_new w (kobj A n c M m d K) (kobj none 0 0 none 0 0 ⟨0, 0, 0, 0⟩)
  have HO := Lib.hid (kown_any A n c M m d zs ms W (h.below hb) hn hm)
  have HW : Hid ((w.alloc (.cells #[.slice A n c, .slice M m d, .int .i64 K.st, .int .i64 K.sp, .int .i64 K.ca, .int .u64 K.tm] 135)).alloc (.cells #[.slice none 0 0, .slice none 0 0, .int .i64 0, .int .i64 0, .int .i64 0, .int .u64 0] 135) = W) := Lib.hid hW
  have q0 : W.cell? ⟨w.heap.size, 0, none⟩ = some (.slice A n c) := vobj_cell k0 rfl
  have q1 : W.cell? ⟨w.heap.size, 1, none⟩ = some (.slice M m d) := vobj_cell k0 rfl
  have B0 := Lib.hid hb
  have K0 := Lib.hid k0
  have K1 := Lib.hid k1
  have SZ := Lib.hid hsz
  obtain ⟨fs, hu⟩ := undCL
  have HU := Lib.hid hu
  clear hW hb k0 k1 hsz hu h hn hm
  by_cases hs : 1 ≤ K.st ∧ K.st ≤ 3
  · have e1 : ¬ K.st < 1 := by omega
    have e2 : ¬ (4 : Int) ≤ K.st := by omega
    rw [show K.fin = ⟨4, K.sp, K.ca, K.tm⟩ by simp [CN.fin, hs], show K.ends = true by simp [CN.ends, hs]]
    clear hs
    go_enter Tryz.func128, Tryz.ntmps128
    go_wp2_with fail
    rw [HW.out]
    refine HO.out.mono ?_
    rintro r V ⟨A', c', M', d', rfl, hbat, ⟨hfA, hfM⟩, bV⟩
    have K0v := Lib.hid (kb_below K0.out bV)
    have K1v := Lib.hid (kb_below K1.out bV)
    have BV := Lib.hid (B0.out.trans (bV.mono B0.out.size))
    have SV : Hid (w.heap.size + 2 ≤ V.heap.size) := Lib.hid (by have := bV.size; have := SZ.out; omega)
    have FA : Hid (Fresh (w.heap.size + 2) A') := Lib.hid (hfA.mono (by have := SZ.out; omega))
    have FM : Hid (Fresh (w.heap.size + 2) M') := Lib.hid (hfM.mono (by have := SZ.out; omega))
    have HB := Lib.hid hbat
    clear q0 q1 hbat hfA hfM bV HO HW K0 K1 B0
    go_wp2_with (first
      | (refine wpList_store_part rfl 91 _ _ rfl w.heap.size 0 135 (kvals A n c M m d K) [.slice A' n c', .slice M' m d'] rfl rfl ?hz (by show 0 + 2 ≤ 6; decide) sizeKB (onesKB _ _ _ _ _ _) ?_; (case hz => exact K0v.out); intro w5 k5 f5 _;
         have K5 : Hid (w5.heap[w.heap.size]? = some (kobj A' n c' M' m d' K)) := Lib.hid k5; have F5 := Lib.hid f5; have Z5 := Lib.hid ((f5.block (w.heap.size + 1) (heap_lt K1v.out) (by show ¬ w.heap.size + 1 = w.heap.size; omega)).trans K1v.out);
         have p2 : w5.cell? ⟨w.heap.size, 2, none⟩ = some (.int .i64 K.st) := vobj_cell K5.out rfl; have p3 : w5.cell? ⟨w.heap.size, 3, none⟩ = some (.int .i64 K.sp) := vobj_cell K5.out rfl; clear k5 f5)
      | (refine wpList_store_one rfl 3 _ _ rfl w.heap.size 2 135 (kvals A' n c' M' m d' K) (.int .i64 4) rfl rfl ?hz (by show 2 < 6; decide) size1i rfl rfl ?_; (case hz => exact K5.out); intro w6 k6 f6 _;
         have K6 : Hid (w6.heap[w.heap.size]? = some (kobj A' n c' M' m d' ⟨4, K.sp, K.ca, K.tm⟩)) := Lib.hid k6; have F6 := Lib.hid f6; have Z6 := Lib.hid ((f6.block (w.heap.size + 1) (heap_lt Z5.out) (by show ¬ w.heap.size + 1 = w.heap.size; omega)).trans Z5.out);
         have p3 : w6.cell? ⟨w.heap.size, 3, none⟩ = some (.int .i64 K.sp) := vobj_cell K6.out rfl; clear k6 f6)
      | (refine wpList_load_agg rfl 135 _ rfl w.heap.size rfl (kvals A' n c' M' m d' ⟨4, K.sp, K.ca, K.tm⟩) ?hz _ HU.out rfl sizeCL ?_; (case hz => exact K6.out))
      | (refine wpList_store_agg rfl 135 _ _ rfl (w.heap.size + 1) (kvals none 0 0 none 0 0 ⟨0, 0, 0, 0⟩) (kvals A' n c' M' m d' ⟨4, K.sp, K.ca, K.tm⟩) rfl rfl ?hz rfl sizeCL (onesK _ _ _ _ _ _ _) ?_; (case hz => exact Z6.out); intro w9 k9 f9 _; have K9 := Lib.hid k9; have F9 := Lib.hid f9; clear k9 f9))
    refine bodyPost_ret (v := .tuple #[callV A' n c' M' m d' ⟨4, K.sp, K.ca, K.tm⟩, .bool true]) (results_agg1 Tryz.results128 rfl (loadCL K9.out rfl) rfl) rfl ?_
    have fs : Frm (· = w.heap.size) V w6 := (F5.out).trans F6.out (fun _ _ e => e)
    have hsv := SV.out
    have b1 : Bat w6 A' n c' M' m d' zs ms := HB.out.behind (FA.out.mono (by omega)) (FM.out.mono (by omega)) fs
    have b2 : Bat w9 A' n c' M' m d' zs ms := b1.behind (FA.out.mono (by omega)) (FM.out.mono (by omega)) F9.out
    have bl : Below w.heap.size w w9 := (BV.out.trans (fs.below BV.out.size (fun j hj e => by omega))).trans (F9.out.below (by have := fs.size; have := BV.out.size; omega) (fun j hj e => by omega))
    exact ⟨_, _, _, _, rfl, b2, ⟨FA.out.mono (by omega), FM.out.mono (by omega)⟩, bl⟩
  · rw [show K.fin = K by simp only [CN.fin, if_neg hs], show K.ends = false by simp only [CN.ends, decide_eq_false hs]]
    by_cases e1 : K.st < 1
    · clear hs
      go_enter Tryz.func128, Tryz.ntmps128
      go_wp2_with fail
      rw [HW.out]
      refine HO.out.mono ?_
      rintro r V ⟨A', c', M', d', rfl, hbat, ⟨hfA, hfM⟩, bV⟩
      have K0v := Lib.hid (kb_below K0.out bV)
      have K1v := Lib.hid (kb_below K1.out bV)
      have BV := Lib.hid (B0.out.trans (bV.mono B0.out.size))
      have SV : Hid (w.heap.size + 2 ≤ V.heap.size) := Lib.hid (by have := bV.size; have := SZ.out; omega)
      have FA : Hid (Fresh (w.heap.size + 2) A') := Lib.hid (hfA.mono (by have := SZ.out; omega))
      have FM : Hid (Fresh (w.heap.size + 2) M') := Lib.hid (hfM.mono (by have := SZ.out; omega))
      have HB := Lib.hid hbat
      clear q0 q1 hbat hfA hfM bV HO HW K0 K1 B0
      go_wp2_with (first
        | (refine wpList_store_part rfl 91 _ _ rfl w.heap.size 0 135 (kvals A n c M m d K) [.slice A' n c', .slice M' m d'] rfl rfl ?hz (by show 0 + 2 ≤ 6; decide) sizeKB (onesKB _ _ _ _ _ _) ?_; (case hz => exact K0v.out); intro w5 k5 f5 _;
           have K5 : Hid (w5.heap[w.heap.size]? = some (kobj A' n c' M' m d' K)) := Lib.hid k5; have F5 := Lib.hid f5; have Z5 := Lib.hid ((f5.block (w.heap.size + 1) (heap_lt K1v.out) (by show ¬ w.heap.size + 1 = w.heap.size; omega)).trans K1v.out);
           have p2 : w5.cell? ⟨w.heap.size, 2, none⟩ = some (.int .i64 K.st) := vobj_cell K5.out rfl; have p3 : w5.cell? ⟨w.heap.size, 3, none⟩ = some (.int .i64 K.sp) := vobj_cell K5.out rfl; clear k5 f5)
        | (refine wpList_load_agg rfl 135 _ rfl w.heap.size rfl (kvals A' n c' M' m d' K) ?hz _ HU.out rfl sizeCL ?_; (case hz => exact K5.out))
        | (refine wpList_store_agg rfl 135 _ _ rfl (w.heap.size + 1) (kvals none 0 0 none 0 0 ⟨0, 0, 0, 0⟩) (kvals A' n c' M' m d' K) rfl rfl ?hz rfl sizeCL (onesK _ _ _ _ _ _ _) ?_; (case hz => exact Z5.out); intro w9 k9 f9 _; have K9 := Lib.hid k9; have F9 := Lib.hid f9; clear k9 f9))
      refine bodyPost_ret (v := .tuple #[callV A' n c' M' m d' K, .bool false]) (results_agg1 Tryz.results128 rfl (loadCL K9.out rfl) rfl) rfl ?_
      have fs : Frm (· = w.heap.size) V w5 := F5.out
      have hsv := SV.out
      have b1 : Bat w5 A' n c' M' m d' zs ms := HB.out.behind (FA.out.mono (by omega)) (FM.out.mono (by omega)) fs
      have b2 : Bat w9 A' n c' M' m d' zs ms := b1.behind (FA.out.mono (by omega)) (FM.out.mono (by omega)) F9.out
      have bl : Below w.heap.size w w9 := (BV.out.trans (fs.below BV.out.size (fun j hj e => by omega))).trans (F9.out.below (by have := fs.size; have := BV.out.size; omega) (fun j hj e => by omega))
      exact ⟨_, _, _, _, rfl, b2, ⟨FA.out.mono (by omega), FM.out.mono (by omega)⟩, bl⟩
    · have e2 : (4 : Int) ≤ K.st := by omega
      clear hs
      go_enter Tryz.func128, Tryz.ntmps128
      go_wp2_with fail
      rw [HW.out]
      refine HO.out.mono ?_
      rintro r V ⟨A', c', M', d', rfl, hbat, ⟨hfA, hfM⟩, bV⟩
      have K0v := Lib.hid (kb_below K0.out bV)
      have K1v := Lib.hid (kb_below K1.out bV)
      have BV := Lib.hid (B0.out.trans (bV.mono B0.out.size))
      have SV : Hid (w.heap.size + 2 ≤ V.heap.size) := Lib.hid (by have := bV.size; have := SZ.out; omega)
      have FA : Hid (Fresh (w.heap.size + 2) A') := Lib.hid (hfA.mono (by have := SZ.out; omega))
      have FM : Hid (Fresh (w.heap.size + 2) M') := Lib.hid (hfM.mono (by have := SZ.out; omega))
      have HB := Lib.hid hbat
      clear q0 q1 hbat hfA hfM bV HO HW K0 K1 B0
      go_wp2_with (first
        | (refine wpList_store_part rfl 91 _ _ rfl w.heap.size 0 135 (kvals A n c M m d K) [.slice A' n c', .slice M' m d'] rfl rfl ?hz (by show 0 + 2 ≤ 6; decide) sizeKB (onesKB _ _ _ _ _ _) ?_; (case hz => exact K0v.out); intro w5 k5 f5 _;
           have K5 : Hid (w5.heap[w.heap.size]? = some (kobj A' n c' M' m d' K)) := Lib.hid k5; have F5 := Lib.hid f5; have Z5 := Lib.hid ((f5.block (w.heap.size + 1) (heap_lt K1v.out) (by show ¬ w.heap.size + 1 = w.heap.size; omega)).trans K1v.out);
           have p2 : w5.cell? ⟨w.heap.size, 2, none⟩ = some (.int .i64 K.st) := vobj_cell K5.out rfl; have p3 : w5.cell? ⟨w.heap.size, 3, none⟩ = some (.int .i64 K.sp) := vobj_cell K5.out rfl; clear k5 f5)
        | (refine wpList_load_agg rfl 135 _ rfl w.heap.size rfl (kvals A' n c' M' m d' K) ?hz _ HU.out rfl sizeCL ?_; (case hz => exact K5.out))
        | (refine wpList_store_agg rfl 135 _ _ rfl (w.heap.size + 1) (kvals none 0 0 none 0 0 ⟨0, 0, 0, 0⟩) (kvals A' n c' M' m d' K) rfl rfl ?hz rfl sizeCL (onesK _ _ _ _ _ _ _) ?_; (case hz => exact Z5.out); intro w9 k9 f9 _; have K9 := Lib.hid k9; have F9 := Lib.hid f9; clear k9 f9))
      refine bodyPost_ret (v := .tuple #[callV A' n c' M' m d' K, .bool false]) (results_agg1 Tryz.results128 rfl (loadCL K9.out rfl) rfl) rfl ?_
      have fs : Frm (· = w.heap.size) V w5 := F5.out
      have hsv := SV.out
      have b1 : Bat w5 A' n c' M' m d' zs ms := HB.out.behind (FA.out.mono (by omega)) (FM.out.mono (by omega)) fs
      have b2 : Bat w9 A' n c' M' m d' zs ms := b1.behind (FA.out.mono (by omega)) (FM.out.mono (by omega)) F9.out
      have bl : Below w.heap.size w w9 := (BV.out.trans (fs.below BV.out.size (fun j hj e => by omega))).trans (F9.out.below (by have := fs.size; have := BV.out.size; omega) (fun j hj e => by omega))
      exact ⟨_, _, _, _, rfl, b2, ⟨FA.out.mono (by omega), FM.out.mono (by omega)⟩, bl⟩

theorem wrap_next {a b : Int} (ha : wf64 a) (hb : wf64 b) (h : a < b) : IntKind.i64.wrap (a + 1) = a + 1 := by
  obtain ⟨h1, h2⟩ := ha
  obtain ⟨h3, h4⟩ := hb
  rw [IntKind.wrap_i64]; omega

set_option maxRecDepth 100000 in
set_option maxHeartbeats 2000000 in
theorem kfail_any (A : Option Addr) (n c : Nat) (M : Option Addr) (m d : Nat) (K : CN) (z k : Int) (zs : List Int) (ms : List P2) (w : World) (h : Bat w A n c M m d zs ms) (hn : n ≤ 1000) (hm : m ≤ 1000) (hsp : wf64 K.sp) (hk : wf64 k) :
    Calls Tryz.prog 130 #[callV A n c M m d K, .int .i64 z, .int .i64 k] w fun r w' => ∃ A' c' M' d', r = .returned (.tuple #[callV A' n c' M' m d' (K.fail z k), .bool (K.fails k)]) ∧ Bat w' A' n c' M' m d' zs ms ∧ (Fresh w.heap.size A' ∧ Fresh w.heap.size M') ∧ Below w.heap.size w w' := by
  obtain ⟨W, hW, hb, k0, k1, hsz⟩ := two_new w (kobj A n c M m d K) (kobj none 0 0 none 0 0 ⟨0, 0, 0, 0⟩)
  have HO := Lib.hid (kown_any A n c M m d zs ms W (h.below hb) hn hm)
  have HW : Hid ((w.alloc (.cells #[.slice A n c, .slice M m d, .int .i64 K.st, .int .i64 K.sp, .int .i64 K.ca, .int .u64 K.tm] 135)).alloc (.cells #[.slice none 0 0, .slice none 0 0, .int .i64 0, .int .i64 0, .int .i64 0, .int .u64 0] 135) = W) := Lib.hid hW
  have q0 : W.cell? ⟨w.heap.size, 0, none⟩ = some (.slice A n c) := vobj_cell k0 rfl
  have q1 : W.cell? ⟨w.heap.size, 1, none⟩ = some (.slice M m d) := vobj_cell k0 rfl
  have B0 := Lib.hid hb
  have K0 := Lib.hid k0
  have K1 := Lib.hid k1
  have SZ := Lib.hid hsz
  obtain ⟨fs, hu⟩ := undCL
  have HU := Lib.hid hu
  clear hW hb k0 k1 hsz hu h hn hm
  by_cases h1 : K.st = 1
  · have hs : 1 ≤ K.st ∧ K.st ≤ 3 := by omega
    have he3 : ¬ K.st = 3 := by omega
    have e1 : (K.st == 1) = true := by simp [h1]
    clear h1
    by_cases hc : K.sp < k
    · have e5 : ¬ k ≤ K.sp := by omega
      have e6 : IntKind.i64.wrap (K.sp + 1) = K.sp + 1 := wrap_next hsp hk hc
      rw [show K.fail z k = ⟨3, K.sp + 1, z, K.tm⟩ by simp only [CN.fail, if_pos hs, if_pos hc, CN.why, if_neg he3], show K.fails k = true by simp only [CN.fails, hs, hc, and_self, decide_true]]
      clear hs hc hsp hk he3
      go_enter Tryz.func130, Tryz.ntmps130
      go_wp2_with fail
      rw [HW.out]
      refine HO.out.mono ?_
      rintro r V ⟨A', c', M', d', rfl, hbat, ⟨hfA, hfM⟩, bV⟩
      have K0v := Lib.hid (kb_below K0.out bV)
      have K1v := Lib.hid (kb_below K1.out bV)
      have BV := Lib.hid (B0.out.trans (bV.mono B0.out.size))
      have SV : Hid (w.heap.size + 2 ≤ V.heap.size) := Lib.hid (by have := bV.size; have := SZ.out; omega)
      have FA : Hid (Fresh (w.heap.size + 2) A') := Lib.hid (hfA.mono (by have := SZ.out; omega))
      have FM : Hid (Fresh (w.heap.size + 2) M') := Lib.hid (hfM.mono (by have := SZ.out; omega))
      have HB := Lib.hid hbat
      clear q0 q1 hbat hfA hfM bV HO HW K0 K1 B0
      go_wp2_with (first
        | (refine wpList_store_part rfl 91 _ _ rfl w.heap.size 0 135 (kvals A n c M m d K) [.slice A' n c', .slice M' m d'] rfl rfl ?hz (by show 0 + 2 ≤ 6; decide) sizeKB (onesKB _ _ _ _ _ _) ?_; (case hz => exact K0v.out); intro w5 k5 f5 _;
           have K5 : Hid (w5.heap[w.heap.size]? = some (kobj A' n c' M' m d' K)) := Lib.hid k5; have F5 := Lib.hid f5; have Z5 := Lib.hid ((f5.block (w.heap.size + 1) (heap_lt K1v.out) (by show ¬ w.heap.size + 1 = w.heap.size; omega)).trans K1v.out);
           have p2 : w5.cell? ⟨w.heap.size, 2, none⟩ = some (.int .i64 K.st) := vobj_cell K5.out rfl; have p3 : w5.cell? ⟨w.heap.size, 3, none⟩ = some (.int .i64 K.sp) := vobj_cell K5.out rfl; clear k5 f5)
        | (refine wpList_store_one rfl 3 _ _ rfl w.heap.size 4 135 (kvals A' n c' M' m d' K) (.int .i64 z) rfl rfl ?hz (by show 4 < 6; decide) size1i rfl rfl ?_; (case hz => exact K5.out); intro w6 k6 f6 _;
           have K6 : Hid (w6.heap[w.heap.size]? = some (kobj A' n c' M' m d' ⟨K.st, K.sp, z, K.tm⟩)) := Lib.hid k6; have F6 := Lib.hid f6; have Z6 := Lib.hid ((f6.block (w.heap.size + 1) (heap_lt Z5.out) (by show ¬ w.heap.size + 1 = w.heap.size; omega)).trans Z5.out);
           have p3 : w6.cell? ⟨w.heap.size, 3, none⟩ = some (.int .i64 K.sp) := vobj_cell K6.out rfl; clear k6 f6)
        | (refine wpList_store_one rfl 3 _ _ rfl w.heap.size 2 135 (kvals A' n c' M' m d' ⟨K.st, K.sp, z, K.tm⟩) (.int .i64 3) rfl rfl ?hz (by show 2 < 6; decide) size1i rfl rfl ?_; (case hz => exact K6.out); intro w7 k7 f7 _;
           have K7 : Hid (w7.heap[w.heap.size]? = some (kobj A' n c' M' m d' ⟨3, K.sp, z, K.tm⟩)) := Lib.hid k7; have F7 := Lib.hid f7; have Z7 := Lib.hid ((f7.block (w.heap.size + 1) (heap_lt Z6.out) (by show ¬ w.heap.size + 1 = w.heap.size; omega)).trans Z6.out);
           have p3 : w7.cell? ⟨w.heap.size, 3, none⟩ = some (.int .i64 K.sp) := vobj_cell K7.out rfl; clear k7 f7)
        | (refine wpList_store_one rfl 3 _ _ rfl w.heap.size 3 135 (kvals A' n c' M' m d' ⟨3, K.sp, z, K.tm⟩) (.int .i64 (K.sp + 1)) rfl rfl ?hz (by show 3 < 6; decide) size1i rfl rfl ?_; (case hz => exact K7.out); intro w8 k8 f8 _;
           have K8 : Hid (w8.heap[w.heap.size]? = some (kobj A' n c' M' m d' ⟨3, K.sp + 1, z, K.tm⟩)) := Lib.hid k8; have F8 := Lib.hid f8; have Z8 := Lib.hid ((f8.block (w.heap.size + 1) (heap_lt Z7.out) (by show ¬ w.heap.size + 1 = w.heap.size; omega)).trans Z7.out);
           clear k8 f8)
        | (refine wpList_load_agg rfl 135 _ rfl w.heap.size rfl (kvals A' n c' M' m d' ⟨3, K.sp + 1, z, K.tm⟩) ?hz _ HU.out rfl sizeCL ?_; (case hz => exact K8.out))
        | (refine wpList_store_agg rfl 135 _ _ rfl (w.heap.size + 1) (kvals none 0 0 none 0 0 ⟨0, 0, 0, 0⟩) (kvals A' n c' M' m d' ⟨3, K.sp + 1, z, K.tm⟩) rfl rfl ?hz rfl sizeCL (onesK _ _ _ _ _ _ _) ?_; (case hz => exact Z8.out); intro w9 k9 f9 _; have K9 := Lib.hid k9; have F9 := Lib.hid f9; clear k9 f9))
      refine bodyPost_ret (v := .tuple #[callV A' n c' M' m d' ⟨3, K.sp + 1, z, K.tm⟩, .bool true]) (results_agg1 Tryz.results130 rfl (loadCL K9.out rfl) rfl) rfl ?_
      have fs : Frm (· = w.heap.size) V w8 := (((F5.out).trans F6.out (fun _ _ e => e)).trans F7.out (fun _ _ e => e)).trans F8.out (fun _ _ e => e)
      have hsv := SV.out
      have b1 : Bat w8 A' n c' M' m d' zs ms := HB.out.behind (FA.out.mono (by omega)) (FM.out.mono (by omega)) fs
      have b2 : Bat w9 A' n c' M' m d' zs ms := b1.behind (FA.out.mono (by omega)) (FM.out.mono (by omega)) F9.out
      have bl : Below w.heap.size w w9 := (BV.out.trans (fs.below BV.out.size (fun j hj e => by omega))).trans (F9.out.below (by have := fs.size; have := BV.out.size; omega) (fun j hj e => by omega))
      exact ⟨_, _, _, _, rfl, b2, ⟨FA.out.mono (by omega), FM.out.mono (by omega)⟩, bl⟩
    · have e5 : k ≤ K.sp := by omega
      rw [show K.fail z k = ⟨4, K.sp, z, K.tm⟩ by simp only [CN.fail, if_pos hs, if_neg hc, CN.why, if_neg he3], show K.fails k = false by simp only [CN.fails, hc, and_false, decide_false]]
      clear hs hc hsp hk he3
      go_enter Tryz.func130, Tryz.ntmps130
      go_wp2_with fail
      rw [HW.out]
      refine HO.out.mono ?_
      rintro r V ⟨A', c', M', d', rfl, hbat, ⟨hfA, hfM⟩, bV⟩
      have K0v := Lib.hid (kb_below K0.out bV)
      have K1v := Lib.hid (kb_below K1.out bV)
      have BV := Lib.hid (B0.out.trans (bV.mono B0.out.size))
      have SV : Hid (w.heap.size + 2 ≤ V.heap.size) := Lib.hid (by have := bV.size; have := SZ.out; omega)
      have FA : Hid (Fresh (w.heap.size + 2) A') := Lib.hid (hfA.mono (by have := SZ.out; omega))
      have FM : Hid (Fresh (w.heap.size + 2) M') := Lib.hid (hfM.mono (by have := SZ.out; omega))
      have HB := Lib.hid hbat
      clear q0 q1 hbat hfA hfM bV HO HW K0 K1 B0
      go_wp2_with (first
        | (refine wpList_store_part rfl 91 _ _ rfl w.heap.size 0 135 (kvals A n c M m d K) [.slice A' n c', .slice M' m d'] rfl rfl ?hz (by show 0 + 2 ≤ 6; decide) sizeKB (onesKB _ _ _ _ _ _) ?_; (case hz => exact K0v.out); intro w5 k5 f5 _;
           have K5 : Hid (w5.heap[w.heap.size]? = some (kobj A' n c' M' m d' K)) := Lib.hid k5; have F5 := Lib.hid f5; have Z5 := Lib.hid ((f5.block (w.heap.size + 1) (heap_lt K1v.out) (by show ¬ w.heap.size + 1 = w.heap.size; omega)).trans K1v.out);
           have p2 : w5.cell? ⟨w.heap.size, 2, none⟩ = some (.int .i64 K.st) := vobj_cell K5.out rfl; have p3 : w5.cell? ⟨w.heap.size, 3, none⟩ = some (.int .i64 K.sp) := vobj_cell K5.out rfl; clear k5 f5)
        | (refine wpList_store_one rfl 3 _ _ rfl w.heap.size 4 135 (kvals A' n c' M' m d' K) (.int .i64 z) rfl rfl ?hz (by show 4 < 6; decide) size1i rfl rfl ?_; (case hz => exact K5.out); intro w6 k6 f6 _;
           have K6 : Hid (w6.heap[w.heap.size]? = some (kobj A' n c' M' m d' ⟨K.st, K.sp, z, K.tm⟩)) := Lib.hid k6; have F6 := Lib.hid f6; have Z6 := Lib.hid ((f6.block (w.heap.size + 1) (heap_lt Z5.out) (by show ¬ w.heap.size + 1 = w.heap.size; omega)).trans Z5.out);
           have p3 : w6.cell? ⟨w.heap.size, 3, none⟩ = some (.int .i64 K.sp) := vobj_cell K6.out rfl; clear k6 f6)
        | (refine wpList_store_one rfl 3 _ _ rfl w.heap.size 2 135 (kvals A' n c' M' m d' ⟨K.st, K.sp, z, K.tm⟩) (.int .i64 4) rfl rfl ?hz (by show 2 < 6; decide) size1i rfl rfl ?_; (case hz => exact K6.out); intro w7 k7 f7 _;
           have K7 : Hid (w7.heap[w.heap.size]? = some (kobj A' n c' M' m d' ⟨4, K.sp, z, K.tm⟩)) := Lib.hid k7; have F7 := Lib.hid f7; have Z7 := Lib.hid ((f7.block (w.heap.size + 1) (heap_lt Z6.out) (by show ¬ w.heap.size + 1 = w.heap.size; omega)).trans Z6.out);
           have p3 : w7.cell? ⟨w.heap.size, 3, none⟩ = some (.int .i64 K.sp) := vobj_cell K7.out rfl; clear k7 f7)
        | (refine wpList_load_agg rfl 135 _ rfl w.heap.size rfl (kvals A' n c' M' m d' ⟨4, K.sp, z, K.tm⟩) ?hz _ HU.out rfl sizeCL ?_; (case hz => exact K7.out))
        | (refine wpList_store_agg rfl 135 _ _ rfl (w.heap.size + 1) (kvals none 0 0 none 0 0 ⟨0, 0, 0, 0⟩) (kvals A' n c' M' m d' ⟨4, K.sp, z, K.tm⟩) rfl rfl ?hz rfl sizeCL (onesK _ _ _ _ _ _ _) ?_; (case hz => exact Z7.out); intro w9 k9 f9 _; have K9 := Lib.hid k9; have F9 := Lib.hid f9; clear k9 f9))
      refine bodyPost_ret (v := .tuple #[callV A' n c' M' m d' ⟨4, K.sp, z, K.tm⟩, .bool false]) (results_agg1 Tryz.results130 rfl (loadCL K9.out rfl) rfl) rfl ?_
      have fs : Frm (· = w.heap.size) V w7 := ((F5.out).trans F6.out (fun _ _ e => e)).trans F7.out (fun _ _ e => e)
      have hsv := SV.out
      have b1 : Bat w7 A' n c' M' m d' zs ms := HB.out.behind (FA.out.mono (by omega)) (FM.out.mono (by omega)) fs
      have b2 : Bat w9 A' n c' M' m d' zs ms := b1.behind (FA.out.mono (by omega)) (FM.out.mono (by omega)) F9.out
      have bl : Below w.heap.size w w9 := (BV.out.trans (fs.below BV.out.size (fun j hj e => by omega))).trans (F9.out.below (by have := fs.size; have := BV.out.size; omega) (fun j hj e => by omega))
      exact ⟨_, _, _, _, rfl, b2, ⟨FA.out.mono (by omega), FM.out.mono (by omega)⟩, bl⟩
  · have e1 : (K.st == 1) = false := by simp [h1]
    by_cases h2 : K.st = 2
    · have hs : 1 ≤ K.st ∧ K.st ≤ 3 := by omega
      have he3 : ¬ K.st = 3 := by omega
      have e2 : (K.st == 2) = true := by simp [h2]
      clear h1 h2
      by_cases hc : K.sp < k
      · have e5 : ¬ k ≤ K.sp := by omega
        have e6 : IntKind.i64.wrap (K.sp + 1) = K.sp + 1 := wrap_next hsp hk hc
        rw [show K.fail z k = ⟨3, K.sp + 1, z, K.tm⟩ by simp only [CN.fail, if_pos hs, if_pos hc, CN.why, if_neg he3], show K.fails k = true by simp only [CN.fails, hs, hc, and_self, decide_true]]
        clear hs hc hsp hk he3
        go_enter Tryz.func130, Tryz.ntmps130
        go_wp2_with fail
        rw [HW.out]
        refine HO.out.mono ?_
        rintro r V ⟨A', c', M', d', rfl, hbat, ⟨hfA, hfM⟩, bV⟩
        have K0v := Lib.hid (kb_below K0.out bV)
        have K1v := Lib.hid (kb_below K1.out bV)
        have BV := Lib.hid (B0.out.trans (bV.mono B0.out.size))
        have SV : Hid (w.heap.size + 2 ≤ V.heap.size) := Lib.hid (by have := bV.size; have := SZ.out; omega)
        have FA : Hid (Fresh (w.heap.size + 2) A') := Lib.hid (hfA.mono (by have := SZ.out; omega))
        have FM : Hid (Fresh (w.heap.size + 2) M') := Lib.hid (hfM.mono (by have := SZ.out; omega))
        have HB := Lib.hid hbat
        clear q0 q1 hbat hfA hfM bV HO HW K0 K1 B0
        go_wp2_with (first
          | (refine wpList_store_part rfl 91 _ _ rfl w.heap.size 0 135 (kvals A n c M m d K) [.slice A' n c', .slice M' m d'] rfl rfl ?hz (by show 0 + 2 ≤ 6; decide) sizeKB (onesKB _ _ _ _ _ _) ?_; (case hz => exact K0v.out); intro w5 k5 f5 _;
             have K5 : Hid (w5.heap[w.heap.size]? = some (kobj A' n c' M' m d' K)) := Lib.hid k5; have F5 := Lib.hid f5; have Z5 := Lib.hid ((f5.block (w.heap.size + 1) (heap_lt K1v.out) (by show ¬ w.heap.size + 1 = w.heap.size; omega)).trans K1v.out);
             have p2 : w5.cell? ⟨w.heap.size, 2, none⟩ = some (.int .i64 K.st) := vobj_cell K5.out rfl; have p3 : w5.cell? ⟨w.heap.size, 3, none⟩ = some (.int .i64 K.sp) := vobj_cell K5.out rfl; clear k5 f5)
          | (refine wpList_store_one rfl 3 _ _ rfl w.heap.size 4 135 (kvals A' n c' M' m d' K) (.int .i64 z) rfl rfl ?hz (by show 4 < 6; decide) size1i rfl rfl ?_; (case hz => exact K5.out); intro w6 k6 f6 _;
             have K6 : Hid (w6.heap[w.heap.size]? = some (kobj A' n c' M' m d' ⟨K.st, K.sp, z, K.tm⟩)) := Lib.hid k6; have F6 := Lib.hid f6; have Z6 := Lib.hid ((f6.block (w.heap.size + 1) (heap_lt Z5.out) (by show ¬ w.heap.size + 1 = w.heap.size; omega)).trans Z5.out);
             have p3 : w6.cell? ⟨w.heap.size, 3, none⟩ = some (.int .i64 K.sp) := vobj_cell K6.out rfl; clear k6 f6)
          | (refine wpList_store_one rfl 3 _ _ rfl w.heap.size 2 135 (kvals A' n c' M' m d' ⟨K.st, K.sp, z, K.tm⟩) (.int .i64 3) rfl rfl ?hz (by show 2 < 6; decide) size1i rfl rfl ?_; (case hz => exact K6.out); intro w7 k7 f7 _;
             have K7 : Hid (w7.heap[w.heap.size]? = some (kobj A' n c' M' m d' ⟨3, K.sp, z, K.tm⟩)) := Lib.hid k7; have F7 := Lib.hid f7; have Z7 := Lib.hid ((f7.block (w.heap.size + 1) (heap_lt Z6.out) (by show ¬ w.heap.size + 1 = w.heap.size; omega)).trans Z6.out);
             have p3 : w7.cell? ⟨w.heap.size, 3, none⟩ = some (.int .i64 K.sp) := vobj_cell K7.out rfl; clear k7 f7)
          | (refine wpList_store_one rfl 3 _ _ rfl w.heap.size 3 135 (kvals A' n c' M' m d' ⟨3, K.sp, z, K.tm⟩) (.int .i64 (K.sp + 1)) rfl rfl ?hz (by show 3 < 6; decide) size1i rfl rfl ?_; (case hz => exact K7.out); intro w8 k8 f8 _;
             have K8 : Hid (w8.heap[w.heap.size]? = some (kobj A' n c' M' m d' ⟨3, K.sp + 1, z, K.tm⟩)) := Lib.hid k8; have F8 := Lib.hid f8; have Z8 := Lib.hid ((f8.block (w.heap.size + 1) (heap_lt Z7.out) (by show ¬ w.heap.size + 1 = w.heap.size; omega)).trans Z7.out);
             clear k8 f8)
          | (refine wpList_load_agg rfl 135 _ rfl w.heap.size rfl (kvals A' n c' M' m d' ⟨3, K.sp + 1, z, K.tm⟩) ?hz _ HU.out rfl sizeCL ?_; (case hz => exact K8.out))
          | (refine wpList_store_agg rfl 135 _ _ rfl (w.heap.size + 1) (kvals none 0 0 none 0 0 ⟨0, 0, 0, 0⟩) (kvals A' n c' M' m d' ⟨3, K.sp + 1, z, K.tm⟩) rfl rfl ?hz rfl sizeCL (onesK _ _ _ _ _ _ _) ?_; (case hz => exact Z8.out); intro w9 k9 f9 _; have K9 := Lib.hid k9; have F9 := Lib.hid f9; clear k9 f9))
        refine bodyPost_ret (v := .tuple #[callV A' n c' M' m d' ⟨3, K.sp + 1, z, K.tm⟩, .bool true]) (results_agg1 Tryz.results130 rfl (loadCL K9.out rfl) rfl) rfl ?_
        have fs : Frm (· = w.heap.size) V w8 := (((F5.out).trans F6.out (fun _ _ e => e)).trans F7.out (fun _ _ e => e)).trans F8.out (fun _ _ e => e)
        have hsv := SV.out
        have b1 : Bat w8 A' n c' M' m d' zs ms := HB.out.behind (FA.out.mono (by omega)) (FM.out.mono (by omega)) fs
        have b2 : Bat w9 A' n c' M' m d' zs ms := b1.behind (FA.out.mono (by omega)) (FM.out.mono (by omega)) F9.out
        have bl : Below w.heap.size w w9 := (BV.out.trans (fs.below BV.out.size (fun j hj e => by omega))).trans (F9.out.below (by have := fs.size; have := BV.out.size; omega) (fun j hj e => by omega))
        exact ⟨_, _, _, _, rfl, b2, ⟨FA.out.mono (by omega), FM.out.mono (by omega)⟩, bl⟩
      · have e5 : k ≤ K.sp := by omega
        rw [show K.fail z k = ⟨4, K.sp, z, K.tm⟩ by simp only [CN.fail, if_pos hs, if_neg hc, CN.why, if_neg he3], show K.fails k = false by simp only [CN.fails, hc, and_false, decide_false]]
        clear hs hc hsp hk he3
        go_enter Tryz.func130, Tryz.ntmps130
        go_wp2_with fail
        rw [HW.out]
        refine HO.out.mono ?_
        rintro r V ⟨A', c', M', d', rfl, hbat, ⟨hfA, hfM⟩, bV⟩
        have K0v := Lib.hid (kb_below K0.out bV)
        have K1v := Lib.hid (kb_below K1.out bV)
        have BV := Lib.hid (B0.out.trans (bV.mono B0.out.size))
        have SV : Hid (w.heap.size + 2 ≤ V.heap.size) := Lib.hid (by have := bV.size; have := SZ.out; omega)
        have FA : Hid (Fresh (w.heap.size + 2) A') := Lib.hid (hfA.mono (by have := SZ.out; omega))
        have FM : Hid (Fresh (w.heap.size + 2) M') := Lib.hid (hfM.mono (by have := SZ.out; omega))
        have HB := Lib.hid hbat
        clear q0 q1 hbat hfA hfM bV HO HW K0 K1 B0
        go_wp2_with (first
          | (refine wpList_store_part rfl 91 _ _ rfl w.heap.size 0 135 (kvals A n c M m d K) [.slice A' n c', .slice M' m d'] rfl rfl ?hz (by show 0 + 2 ≤ 6; decide) sizeKB (onesKB _ _ _ _ _ _) ?_; (case hz => exact K0v.out); intro w5 k5 f5 _;
             have K5 : Hid (w5.heap[w.heap.size]? = some (kobj A' n c' M' m d' K)) := Lib.hid k5; have F5 := Lib.hid f5; have Z5 := Lib.hid ((f5.block (w.heap.size + 1) (heap_lt K1v.out) (by show ¬ w.heap.size + 1 = w.heap.size; omega)).trans K1v.out);
             have p2 : w5.cell? ⟨w.heap.size, 2, none⟩ = some (.int .i64 K.st) := vobj_cell K5.out rfl; have p3 : w5.cell? ⟨w.heap.size, 3, none⟩ = some (.int .i64 K.sp) := vobj_cell K5.out rfl; clear k5 f5)
          | (refine wpList_store_one rfl 3 _ _ rfl w.heap.size 4 135 (kvals A' n c' M' m d' K) (.int .i64 z) rfl rfl ?hz (by show 4 < 6; decide) size1i rfl rfl ?_; (case hz => exact K5.out); intro w6 k6 f6 _;
             have K6 : Hid (w6.heap[w.heap.size]? = some (kobj A' n c' M' m d' ⟨K.st, K.sp, z, K.tm⟩)) := Lib.hid k6; have F6 := Lib.hid f6; have Z6 := Lib.hid ((f6.block (w.heap.size + 1) (heap_lt Z5.out) (by show ¬ w.heap.size + 1 = w.heap.size; omega)).trans Z5.out);
             have p3 : w6.cell? ⟨w.heap.size, 3, none⟩ = some (.int .i64 K.sp) := vobj_cell K6.out rfl; clear k6 f6)
          | (refine wpList_store_one rfl 3 _ _ rfl w.heap.size 2 135 (kvals A' n c' M' m d' ⟨K.st, K.sp, z, K.tm⟩) (.int .i64 4) rfl rfl ?hz (by show 2 < 6; decide) size1i rfl rfl ?_; (case hz => exact K6.out); intro w7 k7 f7 _;
             have K7 : Hid (w7.heap[w.heap.size]? = some (kobj A' n c' M' m d' ⟨4, K.sp, z, K.tm⟩)) := Lib.hid k7; have F7 := Lib.hid f7; have Z7 := Lib.hid ((f7.block (w.heap.size + 1) (heap_lt Z6.out) (by show ¬ w.heap.size + 1 = w.heap.size; omega)).trans Z6.out);
             have p3 : w7.cell? ⟨w.heap.size, 3, none⟩ = some (.int .i64 K.sp) := vobj_cell K7.out rfl; clear k7 f7)
          | (refine wpList_load_agg rfl 135 _ rfl w.heap.size rfl (kvals A' n c' M' m d' ⟨4, K.sp, z, K.tm⟩) ?hz _ HU.out rfl sizeCL ?_; (case hz => exact K7.out))
          | (refine wpList_store_agg rfl 135 _ _ rfl (w.heap.size + 1) (kvals none 0 0 none 0 0 ⟨0, 0, 0, 0⟩) (kvals A' n c' M' m d' ⟨4, K.sp, z, K.tm⟩) rfl rfl ?hz rfl sizeCL (onesK _ _ _ _ _ _ _) ?_; (case hz => exact Z7.out); intro w9 k9 f9 _; have K9 := Lib.hid k9; have F9 := Lib.hid f9; clear k9 f9))
        refine bodyPost_ret (v := .tuple #[callV A' n c' M' m d' ⟨4, K.sp, z, K.tm⟩, .bool false]) (results_agg1 Tryz.results130 rfl (loadCL K9.out rfl) rfl) rfl ?_
        have fs : Frm (· = w.heap.size) V w7 := ((F5.out).trans F6.out (fun _ _ e => e)).trans F7.out (fun _ _ e => e)
        have hsv := SV.out
        have b1 : Bat w7 A' n c' M' m d' zs ms := HB.out.behind (FA.out.mono (by omega)) (FM.out.mono (by omega)) fs
        have b2 : Bat w9 A' n c' M' m d' zs ms := b1.behind (FA.out.mono (by omega)) (FM.out.mono (by omega)) F9.out
        have bl : Below w.heap.size w w9 := (BV.out.trans (fs.below BV.out.size (fun j hj e => by omega))).trans (F9.out.below (by have := fs.size; have := BV.out.size; omega) (fun j hj e => by omega))
        exact ⟨_, _, _, _, rfl, b2, ⟨FA.out.mono (by omega), FM.out.mono (by omega)⟩, bl⟩
    · have e2 : (K.st == 2) = false := by simp [h2]
      by_cases he3 : K.st = 3
      · have hs : 1 ≤ K.st ∧ K.st ≤ 3 := by omega
        have e3 : (K.st == 3) = true := by simp [he3]
        clear h1 h2
        by_cases hc : K.sp < k
        · have e5 : ¬ k ≤ K.sp := by omega
          have e6 : IntKind.i64.wrap (K.sp + 1) = K.sp + 1 := wrap_next hsp hk hc
          rw [show K.fail z k = ⟨3, K.sp + 1, K.ca, K.tm⟩ by simp only [CN.fail, if_pos hs, if_pos hc, CN.why, if_pos he3], show K.fails k = true by simp only [CN.fails, hs, hc, and_self, decide_true]]
          clear hs hc hsp hk he3
          go_enter Tryz.func130, Tryz.ntmps130
          go_wp2_with fail
          rw [HW.out]
          refine HO.out.mono ?_
          rintro r V ⟨A', c', M', d', rfl, hbat, ⟨hfA, hfM⟩, bV⟩
          have K0v := Lib.hid (kb_below K0.out bV)
          have K1v := Lib.hid (kb_below K1.out bV)
          have BV := Lib.hid (B0.out.trans (bV.mono B0.out.size))
          have SV : Hid (w.heap.size + 2 ≤ V.heap.size) := Lib.hid (by have := bV.size; have := SZ.out; omega)
          have FA : Hid (Fresh (w.heap.size + 2) A') := Lib.hid (hfA.mono (by have := SZ.out; omega))
          have FM : Hid (Fresh (w.heap.size + 2) M') := Lib.hid (hfM.mono (by have := SZ.out; omega))
          have HB := Lib.hid hbat
          clear q0 q1 hbat hfA hfM bV HO HW K0 K1 B0
          go_wp2_with (first
            | (refine wpList_store_part rfl 91 _ _ rfl w.heap.size 0 135 (kvals A n c M m d K) [.slice A' n c', .slice M' m d'] rfl rfl ?hz (by show 0 + 2 ≤ 6; decide) sizeKB (onesKB _ _ _ _ _ _) ?_; (case hz => exact K0v.out); intro w5 k5 f5 _;
               have K5 : Hid (w5.heap[w.heap.size]? = some (kobj A' n c' M' m d' K)) := Lib.hid k5; have F5 := Lib.hid f5; have Z5 := Lib.hid ((f5.block (w.heap.size + 1) (heap_lt K1v.out) (by show ¬ w.heap.size + 1 = w.heap.size; omega)).trans K1v.out);
               have p2 : w5.cell? ⟨w.heap.size, 2, none⟩ = some (.int .i64 K.st) := vobj_cell K5.out rfl; have p3 : w5.cell? ⟨w.heap.size, 3, none⟩ = some (.int .i64 K.sp) := vobj_cell K5.out rfl; clear k5 f5)
            | (refine wpList_store_one rfl 3 _ _ rfl w.heap.size 2 135 (kvals A' n c' M' m d' K) (.int .i64 3) rfl rfl ?hz (by show 2 < 6; decide) size1i rfl rfl ?_; (case hz => exact K5.out); intro w6 k6 f6 _;
               have K6 : Hid (w6.heap[w.heap.size]? = some (kobj A' n c' M' m d' ⟨3, K.sp, K.ca, K.tm⟩)) := Lib.hid k6; have F6 := Lib.hid f6; have Z6 := Lib.hid ((f6.block (w.heap.size + 1) (heap_lt Z5.out) (by show ¬ w.heap.size + 1 = w.heap.size; omega)).trans Z5.out);
               have p3 : w6.cell? ⟨w.heap.size, 3, none⟩ = some (.int .i64 K.sp) := vobj_cell K6.out rfl; clear k6 f6)
            | (refine wpList_store_one rfl 3 _ _ rfl w.heap.size 3 135 (kvals A' n c' M' m d' ⟨3, K.sp, K.ca, K.tm⟩) (.int .i64 (K.sp + 1)) rfl rfl ?hz (by show 3 < 6; decide) size1i rfl rfl ?_; (case hz => exact K6.out); intro w7 k7 f7 _;
               have K7 : Hid (w7.heap[w.heap.size]? = some (kobj A' n c' M' m d' ⟨3, K.sp + 1, K.ca, K.tm⟩)) := Lib.hid k7; have F7 := Lib.hid f7; have Z7 := Lib.hid ((f7.block (w.heap.size + 1) (heap_lt Z6.out) (by show ¬ w.heap.size + 1 = w.heap.size; omega)).trans Z6.out);
               clear k7 f7)
            | (refine wpList_load_agg rfl 135 _ rfl w.heap.size rfl (kvals A' n c' M' m d' ⟨3, K.sp + 1, K.ca, K.tm⟩) ?hz _ HU.out rfl sizeCL ?_; (case hz => exact K7.out))
            | (refine wpList_store_agg rfl 135 _ _ rfl (w.heap.size + 1) (kvals none 0 0 none 0 0 ⟨0, 0, 0, 0⟩) (kvals A' n c' M' m d' ⟨3, K.sp + 1, K.ca, K.tm⟩) rfl rfl ?hz rfl sizeCL (onesK _ _ _ _ _ _ _) ?_; (case hz => exact Z7.out); intro w9 k9 f9 _; have K9 := Lib.hid k9; have F9 := Lib.hid f9; clear k9 f9))
          refine bodyPost_ret (v := .tuple #[callV A' n c' M' m d' ⟨3, K.sp + 1, K.ca, K.tm⟩, .bool true]) (results_agg1 Tryz.results130 rfl (loadCL K9.out rfl) rfl) rfl ?_
          have fs : Frm (· = w.heap.size) V w7 := ((F5.out).trans F6.out (fun _ _ e => e)).trans F7.out (fun _ _ e => e)
          have hsv := SV.out
          have b1 : Bat w7 A' n c' M' m d' zs ms := HB.out.behind (FA.out.mono (by omega)) (FM.out.mono (by omega)) fs
          have b2 : Bat w9 A' n c' M' m d' zs ms := b1.behind (FA.out.mono (by omega)) (FM.out.mono (by omega)) F9.out
          have bl : Below w.heap.size w w9 := (BV.out.trans (fs.below BV.out.size (fun j hj e => by omega))).trans (F9.out.below (by have := fs.size; have := BV.out.size; omega) (fun j hj e => by omega))
          exact ⟨_, _, _, _, rfl, b2, ⟨FA.out.mono (by omega), FM.out.mono (by omega)⟩, bl⟩
        · have e5 : k ≤ K.sp := by omega
          rw [show K.fail z k = ⟨4, K.sp, K.ca, K.tm⟩ by simp only [CN.fail, if_pos hs, if_neg hc, CN.why, if_pos he3], show K.fails k = false by simp only [CN.fails, hc, and_false, decide_false]]
          clear hs hc hsp hk he3
          go_enter Tryz.func130, Tryz.ntmps130
          go_wp2_with fail
          rw [HW.out]
          refine HO.out.mono ?_
          rintro r V ⟨A', c', M', d', rfl, hbat, ⟨hfA, hfM⟩, bV⟩
          have K0v := Lib.hid (kb_below K0.out bV)
          have K1v := Lib.hid (kb_below K1.out bV)
          have BV := Lib.hid (B0.out.trans (bV.mono B0.out.size))
          have SV : Hid (w.heap.size + 2 ≤ V.heap.size) := Lib.hid (by have := bV.size; have := SZ.out; omega)
          have FA : Hid (Fresh (w.heap.size + 2) A') := Lib.hid (hfA.mono (by have := SZ.out; omega))
          have FM : Hid (Fresh (w.heap.size + 2) M') := Lib.hid (hfM.mono (by have := SZ.out; omega))
          have HB := Lib.hid hbat
          clear q0 q1 hbat hfA hfM bV HO HW K0 K1 B0
          go_wp2_with (first
            | (refine wpList_store_part rfl 91 _ _ rfl w.heap.size 0 135 (kvals A n c M m d K) [.slice A' n c', .slice M' m d'] rfl rfl ?hz (by show 0 + 2 ≤ 6; decide) sizeKB (onesKB _ _ _ _ _ _) ?_; (case hz => exact K0v.out); intro w5 k5 f5 _;
               have K5 : Hid (w5.heap[w.heap.size]? = some (kobj A' n c' M' m d' K)) := Lib.hid k5; have F5 := Lib.hid f5; have Z5 := Lib.hid ((f5.block (w.heap.size + 1) (heap_lt K1v.out) (by show ¬ w.heap.size + 1 = w.heap.size; omega)).trans K1v.out);
               have p2 : w5.cell? ⟨w.heap.size, 2, none⟩ = some (.int .i64 K.st) := vobj_cell K5.out rfl; have p3 : w5.cell? ⟨w.heap.size, 3, none⟩ = some (.int .i64 K.sp) := vobj_cell K5.out rfl; clear k5 f5)
            | (refine wpList_store_one rfl 3 _ _ rfl w.heap.size 2 135 (kvals A' n c' M' m d' K) (.int .i64 4) rfl rfl ?hz (by show 2 < 6; decide) size1i rfl rfl ?_; (case hz => exact K5.out); intro w6 k6 f6 _;
               have K6 : Hid (w6.heap[w.heap.size]? = some (kobj A' n c' M' m d' ⟨4, K.sp, K.ca, K.tm⟩)) := Lib.hid k6; have F6 := Lib.hid f6; have Z6 := Lib.hid ((f6.block (w.heap.size + 1) (heap_lt Z5.out) (by show ¬ w.heap.size + 1 = w.heap.size; omega)).trans Z5.out);
               have p3 : w6.cell? ⟨w.heap.size, 3, none⟩ = some (.int .i64 K.sp) := vobj_cell K6.out rfl; clear k6 f6)
            | (refine wpList_load_agg rfl 135 _ rfl w.heap.size rfl (kvals A' n c' M' m d' ⟨4, K.sp, K.ca, K.tm⟩) ?hz _ HU.out rfl sizeCL ?_; (case hz => exact K6.out))
            | (refine wpList_store_agg rfl 135 _ _ rfl (w.heap.size + 1) (kvals none 0 0 none 0 0 ⟨0, 0, 0, 0⟩) (kvals A' n c' M' m d' ⟨4, K.sp, K.ca, K.tm⟩) rfl rfl ?hz rfl sizeCL (onesK _ _ _ _ _ _ _) ?_; (case hz => exact Z6.out); intro w9 k9 f9 _; have K9 := Lib.hid k9; have F9 := Lib.hid f9; clear k9 f9))
          refine bodyPost_ret (v := .tuple #[callV A' n c' M' m d' ⟨4, K.sp, K.ca, K.tm⟩, .bool false]) (results_agg1 Tryz.results130 rfl (loadCL K9.out rfl) rfl) rfl ?_
          have fs : Frm (· = w.heap.size) V w6 := (F5.out).trans F6.out (fun _ _ e => e)
          have hsv := SV.out
          have b1 : Bat w6 A' n c' M' m d' zs ms := HB.out.behind (FA.out.mono (by omega)) (FM.out.mono (by omega)) fs
          have b2 : Bat w9 A' n c' M' m d' zs ms := b1.behind (FA.out.mono (by omega)) (FM.out.mono (by omega)) F9.out
          have bl : Below w.heap.size w w9 := (BV.out.trans (fs.below BV.out.size (fun j hj e => by omega))).trans (F9.out.below (by have := fs.size; have := BV.out.size; omega) (fun j hj e => by omega))
          exact ⟨_, _, _, _, rfl, b2, ⟨FA.out.mono (by omega), FM.out.mono (by omega)⟩, bl⟩
      · have hs : ¬ (1 ≤ K.st ∧ K.st ≤ 3) := by omega
        have e3 : (K.st == 3) = false := by simp [he3]
        rw [show K.fail z k = K by simp only [CN.fail, if_neg hs], show K.fails k = false by simp only [CN.fails, hs, false_and, decide_false]]
        clear h1 h2 he3 hs hsp hk
        go_enter Tryz.func130, Tryz.ntmps130
        go_wp2_with fail
        rw [HW.out]
        refine HO.out.mono ?_
        rintro r V ⟨A', c', M', d', rfl, hbat, ⟨hfA, hfM⟩, bV⟩
        have K0v := Lib.hid (kb_below K0.out bV)
        have K1v := Lib.hid (kb_below K1.out bV)
        have BV := Lib.hid (B0.out.trans (bV.mono B0.out.size))
        have SV : Hid (w.heap.size + 2 ≤ V.heap.size) := Lib.hid (by have := bV.size; have := SZ.out; omega)
        have FA : Hid (Fresh (w.heap.size + 2) A') := Lib.hid (hfA.mono (by have := SZ.out; omega))
        have FM : Hid (Fresh (w.heap.size + 2) M') := Lib.hid (hfM.mono (by have := SZ.out; omega))
        have HB := Lib.hid hbat
        clear q0 q1 hbat hfA hfM bV HO HW K0 K1 B0
        go_wp2_with (first
          | (refine wpList_store_part rfl 91 _ _ rfl w.heap.size 0 135 (kvals A n c M m d K) [.slice A' n c', .slice M' m d'] rfl rfl ?hz (by show 0 + 2 ≤ 6; decide) sizeKB (onesKB _ _ _ _ _ _) ?_; (case hz => exact K0v.out); intro w5 k5 f5 _;
             have K5 : Hid (w5.heap[w.heap.size]? = some (kobj A' n c' M' m d' K)) := Lib.hid k5; have F5 := Lib.hid f5; have Z5 := Lib.hid ((f5.block (w.heap.size + 1) (heap_lt K1v.out) (by show ¬ w.heap.size + 1 = w.heap.size; omega)).trans K1v.out);
             have p2 : w5.cell? ⟨w.heap.size, 2, none⟩ = some (.int .i64 K.st) := vobj_cell K5.out rfl; have p3 : w5.cell? ⟨w.heap.size, 3, none⟩ = some (.int .i64 K.sp) := vobj_cell K5.out rfl; clear k5 f5)
          | (refine wpList_load_agg rfl 135 _ rfl w.heap.size rfl (kvals A' n c' M' m d' K) ?hz _ HU.out rfl sizeCL ?_; (case hz => exact K5.out))
          | (refine wpList_store_agg rfl 135 _ _ rfl (w.heap.size + 1) (kvals none 0 0 none 0 0 ⟨0, 0, 0, 0⟩) (kvals A' n c' M' m d' K) rfl rfl ?hz rfl sizeCL (onesK _ _ _ _ _ _ _) ?_; (case hz => exact Z5.out); intro w9 k9 f9 _; have K9 := Lib.hid k9; have F9 := Lib.hid f9; clear k9 f9))
        refine bodyPost_ret (v := .tuple #[callV A' n c' M' m d' K, .bool false]) (results_agg1 Tryz.results130 rfl (loadCL K9.out rfl) rfl) rfl ?_
        have fs : Frm (· = w.heap.size) V w5 := F5.out
        have hsv := SV.out
        have b1 : Bat w5 A' n c' M' m d' zs ms := HB.out.behind (FA.out.mono (by omega)) (FM.out.mono (by omega)) fs
        have b2 : Bat w9 A' n c' M' m d' zs ms := b1.behind (FA.out.mono (by omega)) (FM.out.mono (by omega)) F9.out
        have bl : Below w.heap.size w w9 := (BV.out.trans (fs.below BV.out.size (fun j hj e => by omega))).trans (F9.out.below (by have := fs.size; have := BV.out.size; omega) (fun j hj e => by omega))
        exact ⟨_, _, _, _, rfl, b2, ⟨FA.out.mono (by omega), FM.out.mono (by omega)⟩, bl⟩
end Go.Proofs.YtgnccpmkdgfjeaaGreat

namespace Go.Proofs.YtgnccpmkdgfjeaaGreat
set_option linter.unusedVariables false
open Go.ChangeShapes Go.WideShapes Go.ChangeAt Go.RowKit

/-- Whether a member has a place among so many; what Split tells. -/
def okM (k : Nat) (x : P2) : Bool := decide (0 ≤ x.b ∧ x.b < (k : Int))
def pairL (ms : List P2) (vs : List Int) : List P2 := ms.map (fun x => ⟨x.a, vs.getD x.b.toNat 0⟩)
def splitY (zs : List Int) (ms : List P2) (vs : List Int) : Bool := decide (vs.length = zs.length) && ms.all (okM vs.length)
def splitL (zs : List Int) (ms : List P2) (vs : List Int) : List P2 := if splitY zs ms vs then pairL ms vs else []
theorem split_bad {zs : List Int} {ms : List P2} {vs : List Int} {x : P2} (hx : x ∈ ms) (h : okM vs.length x = false) : splitY zs ms vs = false := by
  unfold splitY
  rw [Bool.and_eq_false_iff]
  refine .inr ?_
  rw [List.all_eq_false]
  exact ⟨x, hx, by simp [h]⟩
theorem splitL_no {zs : List Int} {ms : List P2} {vs : List Int} (h : splitY zs ms vs = false) : splitL zs ms vs = [] := by simp [splitL, h]
theorem splitL_yes {zs : List Int} {ms : List P2} {vs : List Int} (h : splitY zs ms vs = true) : splitL zs ms vs = pairL ms vs := by simp [splitL, h]
theorem pairL_snoc (ms : List P2) (vs : List Int) (x : P2) : pairL (ms ++ [x]) vs = pairL ms vs ++ [⟨x.a, vs.getD x.b.toNat 0⟩] := by simp [pairL]
theorem pairL_len (ms : List P2) (vs : List Int) : (pairL ms vs).length = ms.length := by simp [pairL]

set_option maxRecDepth 100000 in
set_option maxHeartbeats 2000000 in
theorem bsplit_fr (A : Option Addr) (n c : Nat) (M : Option Addr) (m d : Nat) (zs : List Int) (ms : List P2) (B : Option Addr) (k e : Nat) (vs : List Int) (w : World) (h : Bat w A n c M m d zs ms) (hv : RowR irec w B k vs) (hm : m ≤ 1000) :
    Calls Tryz.prog 181 #[batV A n c M m d, .slice B k e] w fun r w' => ∃ P q f, r = .returned (.tuple #[.slice P q f, .bool (splitY zs ms vs)]) ∧ RowR prec w' P q (splitL zs ms vs) ∧ q ≤ f ∧ Fresh w.heap.size P ∧ Below w.heap.size w w' := by
  have hal := h.alen
  have hvl := hv.1
  have HB := Lib.hid h
  have HV := Lib.hid hv
  have ML := Lib.hid h.mlen
  clear h hv
  by_cases hkn : k = n
  case neg =>
    have hkn' : ((k : Int) != n) = true := by simp; omega
    have hy : splitY zs ms vs = false := by simp [splitY, hal, hvl, hkn]
    have HY := Lib.hid hy
    clear hy hal hvl hkn
    go_enter Tryz.func181, Tryz.ntmps181
    go_wp2
    go_ret2
    rw [HY.out, splitL_no HY.out]
    exact ⟨none, 0, 0, rfl, RowR.nil _, Nat.le_refl _, Fresh.none _, below_alloc w _⟩
  case pos =>
    have hkn' : ((k : Int) != n) = false := by simp; omega
    have VL := Lib.hid hvl
    have hvn : vs.length = zs.length := by omega
    have VN := Lib.hid hvn
    have B0 := Lib.hid (below_alloc w (bobj 91 A n c M m d))
    clear hkn hal hvl hvn
    go_enter Tryz.func181, Tryz.ntmps181
    go_wp2_with (first
      | (refine wpList_makeS tP rfl _ _ rfl rfl rfl (by omega) ?_; intro w1 o1 b1;
         have o1' := o1.mono B0.out.size; rw [show (w.alloc (Obj.cells #[.slice A n c, .slice M m d] 91)).heap.size = w.heap.size + 1 by simp] at o1';
         have O1 := Lib.hid o1'; have B1 := Lib.hid (B0.out.trans (b1.mono B0.out.size));
         obtain ⟨c0, c1⟩ := bobj_cells (kb_below (heap_alloc_at w (bobj 91 A n c M m d)) b1); clear o1 b1 o1'))
    go_loopg [22, 6] m (fun g v22 v6 wr => ∃ j : Nat, j + g = m ∧ v22 = .int .i64 j ∧ (∀ x ∈ ms.take j, okM k x = true) ∧ OwnR prec wr w.heap.size 281 v6 (pairL (ms.take j) vs) ∧ Below w.heap.size w wr)
    case atStart => exact ⟨0, by omega, rfl, by simp, O1.out, B1.out⟩
    case round =>
      obtain ⟨j, hj, rfl, hok, hown, hbel⟩ := hrel
      have HJ := Lib.hid hj
      have OK := Lib.hid hok
      have OW := Lib.hid hown
      have BR := Lib.hid hbel
      clear hj hok hown hbel c0 c1 O1
      by_cases hlt : j < m
      · have hlt' : (j : Int) < m := by omega
        obtain ⟨b, off, x, rfl, hx, q0, q1⟩ := (HB.out.mr.later BR.out).pair_at hlt
        obtain ⟨xa, xb⟩ := x
        simp only at q0 q1
        have HX := Lib.hid hx
        clear hx
        by_cases hneg : xb < 0
        · have hbad : okM vs.length ⟨xa, xb⟩ = false := by simp [okM]; omega
          have hy := split_bad (zs := zs) (List.mem_of_getElem? HX.out) hbad
          have HY := Lib.hid hy
          clear hbad hy
          go_wp2
          go_ret2
          rw [HY.out, splitL_no HY.out]
          exact ⟨none, 0, 0, rfl, RowR.nil _, Nat.le_refl _, Fresh.none _, BR.out.alloc BR.out.size _⟩
        · by_cases hbig : (k : Int) ≤ xb
          · have hbad : okM vs.length ⟨xa, xb⟩ = false := by simp [okM, VL.out]; omega
            have hy := split_bad (zs := zs) (List.mem_of_getElem? HX.out) hbad
            have HY := Lib.hid hy
            clear hbad hy
            go_wp2
            go_ret2
            rw [HY.out, splitL_no HY.out]
            exact ⟨none, 0, 0, rfl, RowR.nil _, Nat.le_refl _, Fresh.none _, BR.out.alloc BR.out.size _⟩
          · obtain ⟨q, rfl⟩ := Int.eq_ofNat_of_zero_le (by omega : 0 ≤ xb)
            obtain ⟨vb, vo, z, rfl, hz, q2⟩ := (HV.out.later BR.out).int_at (i := q) (by omega)
            have HZ := Lib.hid hz
            have hq0 : (0 : Int) ≤ (q : Int) := by omega
            have hqk : (q : Int) < (k : Int) := by omega
            clear hz
            go_wp2
            generalize hW : wr.alloc (.cells #[.int .i64 xa, .int .i64 (q : Int)] 185) = W
            have hk : W.heap[wr.heap.size]? = some (.cells #[.int .i64 xa, .int .i64 (q : Int)] 185) := by rw [← hW]; exact heap_alloc_at wr _
            have hbW : Below wr.heap.size wr W := by rw [← hW]; exact below_alloc wr _
            have hszW : W.heap.size = wr.heap.size + 1 := by rw [← hW]; simp
            have hown := OW.out
            have hs : ∀ wx : World, (∀ i, i < W.heap.size → some i ≠ u6.ownBlock → wx.heap[i]? = W.heap[i]?) → wx.cell? ⟨wr.heap.size, 0, none⟩ = some (.int .i64 xa) ∧ wx.cell? ⟨wr.heap.size, 1, none⟩ = some (.int .i64 (q : Int)) ∧ wx.cell? ⟨vb, vo + q, none⟩ = some (.int .i64 z) := fun wx hx => by
              have h1 : wx.heap[wr.heap.size]? = some (.cells #[.int .i64 xa, .int .i64 (q : Int)] 185) := (hx _ (by omega) (fun e => by have := (hown.1.lt _ e.symm).2; omega)).trans hk
              refine ⟨by rw [cell_of h1]; rfl, by rw [cell_of h1]; rfl, ?_⟩
              have hv0 := HV.out.int_at (i := q) (by omega)
              obtain ⟨vb', vo', z', e', _, hc'⟩ := hv0
              cases e'
              have hlt0 : vb < w.heap.size := cell_lt hc'
              have hlt1 : vb < wr.heap.size := cell_lt q2
              refine (World.cell?_of_block (hx vb (by omega) (fun e => by have := (hown.1.lt _ e.symm).1; omega))).trans ?_
              exact (World.cell?_of_block (hbW.block vb hlt1)).trans q2
            have D0 : Hid (Below W.heap.size W W.drew) := Lib.hid (ali_below (drew_ali _))
            have D1 : Hid (Below W.heap.size W (W.drew.alloc (.cells #[.int .i64 xa, .int .i64 z] 281))) := Lib.hid (D0.out.alloc D0.out.size _)
            have OWN := Lib.hid ((OwnR.below hown hbW).below D1.out)
            have SRC := Lib.hid (RowR.one (R := prec) W.drew ⟨xa, z⟩ 281 (cs := #[.int .i64 xa, .int .i64 z]) rfl)
            have LEN : Hid ((pairL (ms.take j) vs).length + 1 ≤ 1048576) := Lib.hid (by rw [pairL_len, List.length_take]; omega)
            have BAS : Hid (w.heap.size ≤ (W.drew.alloc (.cells #[.int .i64 xa, .int .i64 z] 281)).heap.size) := Lib.hid (by have h1 := BR.out.size; have h2 := D1.out.size; omega)
            have HS := Lib.hid hs
            have BW := Lib.hid (BR.out.trans (hbW.mono BR.out.size))
            clear hs hown hbW hszW hk hW q0 q1 q2
            go_region_held3 (fun wx => wx.cell? ⟨wr.heap.size, 0, none⟩ = some (.int .i64 xa) ∧ wx.cell? ⟨wr.heap.size, 1, none⟩ = some (.int .i64 (q : Int)) ∧ wx.cell? ⟨vb, vo + q, none⟩ = some (.int .i64 z))
              (first
                | exact HS.out _ (fun i hi _ => D0.out.block i hi)
                | exact HS.out _ (fun i hi _ => D1.out.block i hi)
                | exact HS.out _ s6)
              (first
                | (refine appS_step tP (base := w.heap.size) rfl (.tmp 36) (.tmp 45) rfl rfl rfl OWN.out SRC.out LEN.out BAS.out ?_;
                   intro v6 w6 own6 gr6 _; have s6 : ∀ i, i < W.heap.size → some i ≠ u6.ownBlock → w6.heap[i]? = W.heap[i]? := (fun i hi hn => (gr6.block i (Nat.lt_of_lt_of_le hi D1.out.size) hn).trans (D1.out.block i hi));
                   have O6 := Lib.hid own6; have L6 := Lib.hid ((BW.out.trans (D1.out.mono BW.out.size)).trans (grown_low gr6 BAS.out OWN.out.low)); clear own6 gr6))
            clear s6
            go_wp2
            go_roundg (m - (j + 1))
            case measure => have := HJ.out; omega
            case rel =>
              refine ⟨j + 1, by omega, by simp, ?_, ?_, L6.out⟩
              · rw [take_more HX.out]
                intro y hy
                rcases List.mem_append.1 hy with hy | hy
                · exact OK.out y hy
                · rw [List.mem_singleton.1 hy]; simp [okM]; omega
              · rw [take_more HX.out, pairL_snoc]
                have e : vs.getD (q : Int).toNat 0 = z := by rw [Int.toNat_natCast, List.getD_eq_getElem?_getD, HZ.out]; rfl
                simp only [e]
                exact O6.out
      · have hjm : j = m := by have := HJ.out; omega
        subst hjm
        have hlt' : ¬ (j : Int) < j := by omega
        obtain ⟨P, q, f, hv6, r6, _, hqf, _⟩ := OW.out.row'
        subst hv6
        have R6 := Lib.hid r6
        have hy : splitY zs ms vs = true := by
          have h1 := OK.out
          rw [List.take_of_length_le (by rw [ML.out]; omega)] at h1
          simp only [splitY, VN.out, decide_true, Bool.true_and, List.all_eq_true]
          rw [← VN.out, VL.out]
          exact h1
        have HY := Lib.hid hy
        clear hy r6
        go_wp2
        go_ret2
        rw [HY.out, splitL_yes HY.out]
        have h2 := R6.out
        rw [List.take_of_length_le (by rw [ML.out]; omega)] at h2
        exact ⟨_, _, _, rfl, h2, hqf, OW.out.fresh, BR.out⟩
theorem bsplit_any (A : Option Addr) (n c : Nat) (M : Option Addr) (m d : Nat) (zs : List Int) (ms : List P2) (B : Option Addr) (k e : Nat) (vs : List Int) (w : World) (h : Bat w A n c M m d zs ms) (hv : RowR irec w B k vs) (hm : m ≤ 1000) :
    Calls Tryz.prog 181 #[batV A n c M m d, .slice B k e] w fun r w' => ∃ P q f, r = .returned (.tuple #[.slice P q f, .bool (splitY zs ms vs)]) ∧ RowR prec w' P q (splitL zs ms vs) ∧ q ≤ f ∧ Below w.heap.size w w' := by
  refine (bsplit_fr A n c M m d zs ms B k e vs w h hv hm).mono ?_
  rintro r w' ⟨P, q, f, h1, h2, h3, _, h4⟩
  exact ⟨P, q, f, h1, h2, h3, h4⟩
end Go.Proofs.YtgnccpmkdgfjeaaGreat

namespace Go.Proofs.YtgnccpmkdgfjeaaGreat
set_option linter.unusedVariables false
open Go.ChangeShapes Go.WideShapes Go.ChangeAt Go.RowKit Go.Deep

/-- A cell of plain data as a literal. -/
def vlit : Value → Lit
  | .bool b => .bool b
  | .int k n => .int k n
  | .string s => .string s.data.toList
  | _ => .bool false

theorem Flat.part : ∀ {a b : List CK} {cs : List Value}, Flat (a ++ b) cs → Flat a (cs.take a.length) ∧ Flat b (cs.drop a.length)
  | [], _, _, h => ⟨by simp [Flat], by simpa using h⟩
  | _ :: _, _, [], h => h.elim
  | _ :: _, _, _ :: _, h => ⟨⟨h.1, (Flat.part h.2).1⟩, (Flat.part h.2).2⟩

theorem vlit_inj : ∀ {ks : List CK} {xs ys : List Value}, Flat ks xs → Flat ks ys → xs.map vlit = ys.map vlit → xs = ys
  | [], [], [], _, _, _ => rfl
  | [], _ :: _, _, h, _, _ => h.elim
  | [], [], _ :: _, _, h, _ => h.elim
  | _ :: _, [], _, h, _, _ => h.elim
  | _ :: _, _ :: _, [], _, h, _ => h.elim
  | c :: cs, x :: xs, y :: ys, h, g, e => by
    simp only [List.map_cons, List.cons.injEq] at e
    have e2 := vlit_inj h.2 g.2 e.2
    have e1 := e.1
    have h1 := h.1
    have g1 := g.1
    match c with
    | some (some k) =>
      obtain ⟨n, rfl, _⟩ := h1
      obtain ⟨m, rfl, _⟩ := g1
      simp [vlit] at e1
      rw [e1, e2]
    | some Option.none =>
      obtain ⟨n, rfl⟩ := h1
      obtain ⟨m, rfl⟩ := g1
      simp [vlit] at e1
      rw [e1, e2]
    | Option.none =>
      obtain ⟨⟨⟨n⟩⟩, rfl, _⟩ := h1
      obtain ⟨⟨⟨m⟩⟩, rfl, _⟩ := g1
      simp [vlit] at e1
      rw [e1, e2]

section
variable {P : Program}

theorem lits_fields {g : TypeId → Option (List CK)} {d : Nat} {cs : List Value} (hg : ∀ t ks us, g t = some ks → P.keyTypeAt d t = true → Flat ks us → P.keyLits d t us = some (us.map vlit)) :
    ∀ (fs : List Field) (off : Nat) (ks : List CK), fieldKinds P g fs off = some ks → (∀ fd ∈ fs, P.keyTypeAt d fd.type = true) → Flat ks (cs.drop off) →
      ∃ Ls, (fs.mapM fun fd => P.keyLits d fd.type ((cs.drop fd.offset).take (P.cellsOf fd.type))) = some Ls ∧ Ls.flatten = (cs.drop off).map vlit
  | [], off, ks, h, _, hf => by
    simp only [fieldKinds, Option.some.injEq] at h
    subst h
    refine ⟨[], rfl, ?_⟩
    generalize cs.drop off = us at hf
    match us, hf with
    | [], _ => rfl
  | fd :: fs, off, ks, h, hk, hf => by
    simp only [fieldKinds, Option.bind_eq_some_iff] at h
    obtain ⟨l, h1, h⟩ := h
    split at h
    · rename_i hc
      simp only [Option.map_eq_some_iff] at h
      obtain ⟨l', h2, rfl⟩ := h
      have hp := hf.part
      rw [List.drop_drop] at hp
      obtain ⟨Ls, e1, e2⟩ := lits_fields hg fs (off + l.length) l' h2 (fun x hx => hk x (by simp [hx])) hp.2
      have e0 := hg fd.type l _ h1 (hk fd (by simp)) hp.1
      refine ⟨((cs.drop off).take l.length).map vlit :: Ls, ?_, ?_⟩
      · rw [List.mapM_cons]
        rw [hc.1, hc.2, e0, e1]
        rfl
      · rw [List.flatten_cons, e2, ← List.map_append, ← List.drop_drop, List.take_append_drop]
    · cases h

theorem lits_items {l : List CK} {d : Nat} {e : TypeId} {cs : List Value} (hg : ∀ us, Flat l us → P.keyLits d e us = some (us.map vlit)) :
    ∀ (m i : Nat), Flat (List.replicate m l).flatten (cs.drop (i * l.length)) →
      ∃ Ls, ((List.range' i m).mapM fun j => P.keyLits d e ((cs.drop (j * l.length)).take l.length)) = some Ls ∧ Ls.flatten = (cs.drop (i * l.length)).map vlit
  | 0, i, hf => by
    refine ⟨[], rfl, ?_⟩
    generalize cs.drop (i * l.length) = us at hf
    match us, hf with
    | [], _ => rfl
  | m + 1, i, hf => by
    rw [List.replicate_succ, List.flatten_cons] at hf
    have hp := hf.part
    rw [List.drop_drop, show i * l.length + l.length = (i + 1) * l.length by rw [Nat.succ_mul]] at hp
    obtain ⟨Ls, e1, e2⟩ := lits_items hg m (i + 1) hp.2
    refine ⟨((cs.drop (i * l.length)).take l.length).map vlit :: Ls, ?_, ?_⟩
    · rw [List.range'_succ, List.mapM_cons, hg _ hp.1, e1]
      rfl
    · rw [List.flatten_cons, e2, ← List.map_append, Nat.succ_mul, ← List.drop_drop, List.take_append_drop]

theorem lits_flat : ∀ (f : Nat) (t : TypeId) (ks : List CK) (cs : List Value), kindsOf P f t = some ks → P.keyTypeAt f t = true → Flat ks cs → P.keyLits f t cs = some (cs.map vlit)
  | 0, _, _, _, h, _, _ => by simp [kindsOf] at h
  | f + 1, t, ks, cs, h, hk, hf => by
    unfold kindsOf at h
    split at h
    · rename_i ht
      cases h
      match cs, hf with
      | [_], ⟨⟨b, rfl⟩, _⟩ => simp [Program.keyLits, ht, vlit]
    · rename_i k ht
      cases h
      match cs, hf with
      | [_], ⟨⟨n, rfl, hw⟩, _⟩ => simp [Program.keyLits, ht, vlit, hw]
    · rename_i ht
      cases h
      match cs, hf with
      | [_], ⟨⟨s, rfl, hs⟩, _⟩ => simp [Program.keyLits, ht, vlit, hs]
    · rename_i fs ht
      simp only [Option.bind_eq_some_iff] at h
      obtain ⟨l, h1, h⟩ := h
      split at h
      · rename_i hc
        cases h
        unfold Program.keyTypeAt at hk
        simp only [ht, Bool.and_eq_true, Array.all_eq_true_iff_forall_mem] at hk
        obtain ⟨Ls, e1, e2⟩ := lits_fields (cs := cs) (g := kindsOf P f) (d := f) (fun t ks us a b c => lits_flat f t ks us a b c) fs.toList 0 ks h1 (fun fd hm => (hk.1.1 fd (by simpa using hm)).2) (by simpa using hf)
        have hb : fs.all (·.name != "_") = true := by
          rw [Array.all_eq_true_iff_forall_mem]
          exact fun x hx => (hk.1.1 x hx).1
        simp only [Program.keyLits, ht]
        rw [if_pos ⟨by rw [hc, hf.length], hb⟩, e1]
        simpa using e2
      · cases h
    · rename_i n e ht
      simp only [Option.bind_eq_some_iff] at h
      obtain ⟨l, h1, h⟩ := h
      split at h
      · rename_i hc
        cases h
        unfold Program.keyTypeAt at hk
        simp only [ht] at hk
        obtain ⟨Ls, e1, e2⟩ := lits_items (cs := cs) (d := f) (e := e) (l := l) (fun us hu => lits_flat f e l us h1 hk hu) n 0 (by simpa using hf)
        simp only [Program.keyLits, ht]
        rw [if_pos (by rw [hf.length, hc.2]; simp), List.range_eq_range', hc.1, e1]
        simpa using e2
      · cases h
    · cases h

/-- '==' of two plain structs or arrays. -/
theorem same_flat {t : TypeId} {ks : List CK} {xs ys : Array Value} (f : Nat) (hle : f ≤ 10000) (hk : kindsOf P f t = some ks) (ht : P.keyTypeAt f t = true) (hc : P.cellsOf t = ks.length)
    (hagg : (match P.underlying t with | some (.struct _) | some (.array _ _) => true | _ => false) = true) (hx : Flat ks xs.toList) (hy : Flat ks ys.toList) (w : World) :
    ∃ r : Bool, (Op.equalIn 10000 t (.agg xs) (.agg ys)).run P w = .ok r w ∧ (r = true ↔ xs = ys) := by
  have fm : ∀ zs : Array Value, Flat ks zs.toList → Value.formed P t (.agg zs) = true := by
    intro zs hz
    have := hz.length
    simp only [Array.length_toList] at this
    unfold Value.formed
    split at hagg <;> simp_all
  have := run_equalIn_deep (P := P) (10000 - f) f t ht w f f (.agg xs) (.agg ys) _ _ (fm xs hx) (fm ys hy) (lits_flat f t ks _ hk ht hx) (lits_flat f t ks _ hk ht hy)
  rw [Nat.sub_add_cancel hle] at this
  obtain ⟨r, h1, h2⟩ := this
  refine ⟨r, h1, h2.trans ⟨fun e => ?_, fun e => by rw [e]⟩⟩
  have := vlit_inj hx hy e
  exact Array.toList_inj.1 this
theorem same_yes {t : TypeId} {ks : List CK} {xs : Array Value} (f : Nat) (hle : f ≤ 10000) (hk : kindsOf P f t = some ks) (ht : P.keyTypeAt f t = true) (hc : P.cellsOf t = ks.length)
    (hagg : (match P.underlying t with | some (.struct _) | some (.array _ _) => true | _ => false) = true) (hx : Flat ks xs.toList) (w : World) :
    (Op.equalIn 10000 t (.agg xs) (.agg xs)).run P w = .ok true w := by
  obtain ⟨r, h, e⟩ := same_flat f hle hk ht hc hagg hx hx w
  rw [h, e.2 rfl]
theorem same_no {t : TypeId} {ks : List CK} {xs ys : Array Value} (f : Nat) (hle : f ≤ 10000) (hk : kindsOf P f t = some ks) (ht : P.keyTypeAt f t = true) (hc : P.cellsOf t = ks.length)
    (hagg : (match P.underlying t with | some (.struct _) | some (.array _ _) => true | _ => false) = true) (hx : Flat ks xs.toList) (hy : Flat ks ys.toList) (hne : xs ≠ ys) (w : World) :
    (Op.equalIn 10000 t (.agg xs) (.agg ys)).run P w = .ok false w := by
  obtain ⟨r, h, e⟩ := same_flat f hle hk ht hc hagg hx hy w
  rw [h]
  cases r
  · rfl
  · exact absurd (e.1 rfl) hne
end
end Go.Proofs.YtgnccpmkdgfjeaaGreat

namespace Go.Proofs.YtgnccpmkdgfjeaaGreat
set_option linter.unusedVariables false
open Go.ChangeShapes Go.WideShapes Go.ChangeAt Go.RowKit

/-- An outcome: whose, of what kind, of what cause, its value, when. -/
structure Ot where
  id : Int
  kind : Int
  cause : Int
  val : Int
  tm : Int
namespace Ot
def vals (x : Ot) : List Value := [.int .i64 x.id, .int .i64 x.kind, .int .i64 x.cause, .int .i64 x.val, .int .u64 x.tm]
def zero : Ot := ⟨0, 0, 0, 0, 0⟩
structure Fits (x : Ot) : Prop where
  id : wf64 x.id
  kind : wf64 x.kind
  cause : wf64 x.cause
  val : wf64 x.val
  tm : 0 ≤ x.tm ∧ x.tm ≤ 18446744073709551615
theorem zero_fits : zero.Fits := ⟨⟨by decide, by decide⟩, ⟨by decide, by decide⟩, ⟨by decide, by decide⟩, ⟨by decide, by decide⟩, by decide⟩
theorem len_vals (x : Ot) : x.vals.length = 5 := rfl
theorem ones_vals (x : Ot) : Ones x.vals := by intro v hv; simp only [vals, List.mem_cons, List.not_mem_nil, or_false] at hv; rcases hv with rfl | rfl | rfl | rfl | rfl <;> rfl
theorem vals_inj {x y : Ot} (h : x.vals = y.vals) : x = y := by
  cases x; cases y
  simp [vals] at h
  obtain ⟨rfl, rfl, rfl, rfl, rfl⟩ := h
  rfl
instance : DecidableEq Ot := fun x y => decidable_of_iff (x.id = y.id ∧ x.kind = y.kind ∧ x.cause = y.cause ∧ x.val = y.val ∧ x.tm = y.tm) ⟨fun h => by cases x; cases y; simp at h; simp [h], fun h => by subst h; exact ⟨rfl, rfl, rfl, rfl, rfl⟩⟩
/-- Whether it may be. -/
def May (x : Ot) : Prop := ((x.kind = 1 ∨ x.kind = 2) ∧ x.cause = 0) ∨ ((x.kind = 3 ∨ (x.kind = 4 ∧ x.val = 0)) ∧ 1 ≤ x.cause ∧ x.cause ≤ 4)
instance (x : Ot) : Decidable x.May := by unfold May; infer_instance
def may (x : Ot) : Bool := decide x.May
end Ot
def orec : Rec Ot := ⟨Ot.vals, 5, by decide, Ot.len_vals, Ot.ones_vals⟩
/-- The kinds of its cells. -/
abbrev outK : List CK := [.int .i64, .int .i64, .int .i64, .int .i64, .int .u64]
theorem wfU {n : Int} (h : 0 ≤ n ∧ n ≤ 18446744073709551615) : (Lit.int .u64 n).wf = true := WalkArith.wf_u64 h
theorem flat_out {x : Ot} (h : x.Fits) : Flat outK x.vals := ⟨⟨_, rfl, h.id.lit⟩, ⟨_, rfl, h.kind.lit⟩, ⟨_, rfl, h.cause.lit⟩, ⟨_, rfl, h.val.lit⟩, ⟨_, rfl, wfU h.tm⟩, trivial⟩
theorem out_flat {vs : List Value} (h : Flat outK vs) : ∃ x : Ot, vs = x.vals ∧ x.Fits := by
  obtain _ | ⟨v0, vs⟩ := vs
  · exact h.elim
  obtain ⟨⟨a, rfl, ha⟩, h⟩ := h
  obtain _ | ⟨v1, vs⟩ := vs
  · exact h.elim
  obtain ⟨⟨b, rfl, hb⟩, h⟩ := h
  obtain _ | ⟨v2, vs⟩ := vs
  · exact h.elim
  obtain ⟨⟨c, rfl, hc⟩, h⟩ := h
  obtain _ | ⟨v3, vs⟩ := vs
  · exact h.elim
  obtain ⟨⟨d, rfl, hd⟩, h⟩ := h
  obtain _ | ⟨v4, vs⟩ := vs
  · exact h.elim
  obtain ⟨⟨e, rfl, he⟩, h⟩ := h
  obtain _ | ⟨v5, vs⟩ := vs
  · exact ⟨⟨a, b, c, d, e⟩, rfl, bounds_i64 ha, bounds_i64 hb, bounds_i64 hc, bounds_i64 hd, wf_u64 he⟩
  · exact h.elim
theorem out_agg {c : Array Value} (h : Flat outK c.toList) : ∃ x : Ot, c = aggV x.vals ∧ x.Fits := by
  obtain ⟨x, e, hx⟩ := out_flat h
  exact ⟨x, by rw [← e]; rfl, hx⟩

/-! ### its type -/
theorem undO : ∃ fs, Tryz.prog.underlying 83 = some (.struct fs) := ⟨_, Tryz.underlying83⟩
theorem sizeO (x : Ot) : (Tryz.prog.info? 83).map (·.size) = some x.vals.length := by rw [x.len_vals]; kernel_rfl
theorem allocO (w : World) : (Instr.alloc 83 true (.tuple #[])).run Tryz.prog w = .ok (.pointer (some ⟨w.heap.size, 0, none⟩)) (w.alloc (vobj 83 Ot.zero.vals)) := by kernel_rfl
theorem buildO (w : World) : (Instr.build 83 #[]).run Tryz.prog w = .ok (.agg (aggV Ot.zero.vals)) w := by kernel_rfl
theorem loadO {w : World} {g : Nat} {x : Ot} (h : w.heap[g]? = some (vobj 83 x.vals)) : (loadVar 83 ⟨g, 0, none⟩).run Tryz.prog w = .ok (.agg (aggV x.vals)) w := by
  obtain ⟨fs, hu⟩ := undO
  exact run_load_agg w _ g x.vals _ h hu rfl (sizeO x)
theorem cellsO {w : World} {g : Nat} {ty : TypeId} {x : Ot} (h : w.heap[g]? = some (vobj ty x.vals)) : w.cell? ⟨g, 0, none⟩ = some (.int .i64 x.id) ∧ w.cell? ⟨g, 1, none⟩ = some (.int .i64 x.kind) ∧ w.cell? ⟨g, 2, none⟩ = some (.int .i64 x.cause) ∧ w.cell? ⟨g, 3, none⟩ = some (.int .i64 x.val) ∧ w.cell? ⟨g, 4, none⟩ = some (.int .u64 x.tm) :=
  ⟨vobj_cell h rfl, vobj_cell h rfl, vobj_cell h rfl, vobj_cell h rfl, vobj_cell h rfl⟩
theorem out_slice : Tryz.prog.underlying 43 = some (.slice 83) := by kernel_rfl
theorem out_info : (Tryz.prog.info? 83).map (fun i => (i.zero, i.size, i.bytes)) = some (some (.agg (aggV Ot.zero.vals)), 5, 40) := by kernel_rfl
theorem out_parts : ∃ i, Tryz.prog.info? 83 = some i ∧ i.zero = some (.agg (aggV Ot.zero.vals)) ∧ i.size = 5 ∧ i.bytes = 40 := by
  have h := out_info
  cases hi : Tryz.prog.info? 83 with
  | none => rw [hi] at h; cases h
  | some i =>
    rw [hi] at h
    simp only [Option.map_some, Option.some.injEq, Prod.mk.injEq] at h
    exact ⟨i, rfl, h.1, h.2.1, h.2.2⟩
/-- '==' of two outcomes. -/
theorem sameO (x y : Ot) (h : x.Fits) (h' : y.Fits) (w : World) : (Op.equalIn 10000 83 (.agg (aggV x.vals)) (.agg (aggV y.vals))).run Tryz.prog w = .ok (decide (x = y)) w := by
  by_cases e : x = y
  · subst e
    rw [same_yes (P := Tryz.prog) (t := 83) (ks := outK) 8 (by decide) (by kernel_rfl) (by kernel_rfl) (by kernel_rfl) (by kernel_rfl) (xs := aggV x.vals) (flat_out h) w]
    simp
  · rw [same_no (P := Tryz.prog) (t := 83) (ks := outK) 8 (by decide) (by kernel_rfl) (by kernel_rfl) (by kernel_rfl) (by kernel_rfl) (xs := aggV x.vals) (ys := aggV y.vals) (flat_out h) (flat_out h') (fun hc => e (Ot.vals_inj (aggV_inj hc))) w]
    simp [e]

/-! ### slices of them -/
abbrev OutR (w : World) (base : Nat) (v : Value) (V : List Ot) : Prop := OwnR orec w base 83 v V
theorem wpList_appO {ops : Array Oper} {rest : List Oper} {o : Oper} {a : Act} {Q : Exit → Act → World → Prop} {w : World} {base m c : Nat} {v : Value} {V U : List Ot} {A : Option Addr} (hg : o.guard = none) (s x : Operand)
    (ho : o.op = .call { callee := .builtin .append, args := #[s, x], argTypes := #[43, 43] })
    (hsv : a.eval s = v) (hxv : a.eval x = .slice A m c) (own : OutR w base v V) (src : RowR orec w A m U) (hle : V.length + m ≤ 1048576) (hbase : base ≤ w.heap.size)
    (h : ∀ v' w', OutR w' base v' (V ++ U) → w.grownBy w' v.ownBlock → (v'.ownBlock = v.ownBlock ∨ v'.ownBlock = some w.heap.size) → wpList Tryz.prog ops Q rest (a.put o.dst v') w') : wpList Tryz.prog ops Q (o :: rest) a w := by
  obtain ⟨i0, hi0, hz0, hz1, hz2⟩ := out_parts
  exact wpList_appR hg s x ho out_slice hi0 hz0 hz1 hz2 rfl (by omega) hsv hxv own src hle hbase h
/-- Where an element lies. -/
theorem RowR.out {w : World} {A : Option Addr} {n : Nat} {V : List Ot} (h : RowR orec w A n V) {i : Nat} (hi : i < n) : ∃ b off x, A = some ⟨b, off, none⟩ ∧ V[i]? = some x ∧ w.rangeAt b (off + i * 5) x.vals := by
  obtain ⟨b, off, a, hA, hV, _, hc⟩ := h.at_ hi
  exact ⟨b, off, a, hA, hV, fun j u hu => hc j u hu⟩
theorem range_cell {w : World} {b p : Nat} {x : Ot} (h : w.rangeAt b p x.vals) : w.cell? ⟨b, p, none⟩ = some (.int .i64 x.id) := h 0 _ rfl
theorem range_later {w w' : World} {b p : Nat} {vs : List Value} (h : w.rangeAt b p vs) (hb : Below w.heap.size w w') : w'.rangeAt b p vs := fun j u hu => cell_later hb (h j u hu)
/-- Outcomes that came in. -/
theorem outs_in {w : World} {a : Option Addr} {l k : Nat} {D : List (List Value)} (h : SliceIn w outK 40 a l k D) : ∃ V : List Ot, RowR orec w a l V ∧ (∀ x ∈ V, x.Fits) ∧ l ≤ k ∧ k ≤ maxLen := by
  obtain ⟨h1, h2, h3, _, h5, h6⟩ := h
  have hz : ∀ M : List (List Value), (∀ row ∈ M, Flat outK row) → ∃ V : List Ot, M = V.map Ot.vals ∧ ∀ x ∈ V, x.Fits := by
    intro M
    induction M with
    | nil => intro _; exact ⟨[], rfl, by simp⟩
    | cons row M ih =>
      intro hM
      obtain ⟨V, e, hV⟩ := ih (fun r hr => hM r (by simp [hr]))
      obtain ⟨x, rfl, hx⟩ := out_flat (hM row (by simp))
      exact ⟨x :: V, by simp [e], by intro y hy; rcases List.mem_cons.1 hy with rfl | hy; exact hx; exact hV y hy⟩
  obtain ⟨V, rfl, hV⟩ := hz D h2
  refine ⟨V, ⟨by simpa using h1, by omega, ?_⟩, hV, h3, h5⟩
  rcases h6 with h6 | ⟨b, off, e, hlt, hc⟩
  · exact .inl h6
  · refine .inr ⟨b, off, e, hlt, fun j u hu => ?_⟩
    have hj := (List.getElem?_eq_some_iff.1 hu).1
    have hfl := orec.flat_length V
    rw [hfl] at hj
    have h5' : orec.size = 5 := rfl
    rw [h5'] at hj
    have hi : j / 5 < V.length := by omega
    have hV' : V[j / 5]? = some (V[j / 5]'hi) := List.getElem?_eq_getElem hi
    have hv : (V[j / 5]'hi).vals[j % 5]? = some ((V[j / 5]'hi).vals[j % 5]'(by rw [Ot.len_vals]; omega)) := List.getElem?_eq_getElem _
    have h7 := orec.flat_at hV' hv
    rw [h5', show j / 5 * 5 + j % 5 = j by omega] at h7
    rw [h7] at hu
    injection hu with hu
    rw [← hu]
    have := hc (j / 5) (j % 5) (V[j / 5]'hi).vals _ (by rw [List.getElem?_map, hV']; rfl) hv
    rwa [show (outK.length : Nat) = 5 from rfl, show j / 5 * 5 + j % 5 = j by omega] at this

/-! ### lists of them, by their ids -/
/-- Whether a command has one; its outcome; its place. -/
def hasL (L : List Ot) (z : Int) : Bool := L.any (fun x => x.id == z)
def ofL (L : List Ot) (z : Int) : Ot := (L.find? (fun x => x.id == z)).getD Ot.zero
def place (L : List Ot) (z : Int) : Option Nat := L.findIdx? (fun x => x.id == z)
def adds (L : List Ot) (x : Ot) : Bool := x.may && !hasL L x.id
def emit (L : List Ot) (x : Ot) : List Ot := if adds L x then L ++ [x] else L
theorem hasL_iff {L : List Ot} {z : Int} : hasL L z = true ↔ ∃ x ∈ L, x.id = z := by simp [hasL]
theorem place_some {L : List Ot} {z : Int} (h : hasL L z = true) : ∃ i, place L z = some i ∧ L[i]? = some (ofL L z) ∧ (ofL L z).id = z := by
  unfold place ofL
  cases hp : L.findIdx? (fun x => x.id == z) with
  | none =>
    rw [List.findIdx?_eq_none_iff] at hp
    obtain ⟨x, hx, e⟩ := hasL_iff.1 h
    have := hp x hx
    simp [e] at this
  | some i =>
    refine ⟨i, rfl, ?_⟩
    obtain ⟨hi, h1, h2⟩ := List.findIdx?_eq_some_iff_getElem.1 hp
    have hf : L.find? (fun x => x.id == z) = some L[i] := by
      rw [List.find?_eq_some_iff_getElem]
      exact ⟨h1, i, hi, rfl, fun j hj => by simpa using h2 j hj⟩
    rw [hf, List.getElem?_eq_getElem hi]
    exact ⟨rfl, by simpa using h1⟩
theorem place_none {L : List Ot} {z : Int} (h : hasL L z = false) : place L z = none := by
  unfold place
  rw [List.findIdx?_eq_none_iff]
  intro x hx
  have : ¬ ∃ x ∈ L, x.id = z := fun hc => by rw [hasL_iff.2 hc] at h; cases h
  simpa using fun e => this ⟨x, hx, e⟩
theorem ofL_none {L : List Ot} {z : Int} (h : hasL L z = false) : ofL L z = Ot.zero := by
  unfold ofL
  rw [List.find?_eq_none.2 (fun x hx => ?_)]
  · rfl
  · intro hc
    rw [hasL_iff.2 ⟨x, hx, by simpa using hc⟩] at h
    cases h
theorem ofL_fits {L : List Ot} {z : Int} (h : ∀ x ∈ L, x.Fits) : (ofL L z).Fits := by
  cases hh : hasL L z
  · rw [ofL_none hh]; exact Ot.zero_fits
  · obtain ⟨i, _, hi, _⟩ := place_some hh
    exact h _ (List.mem_of_getElem? hi)
theorem hasL_snoc (L : List Ot) (x : Ot) (z : Int) : hasL (L ++ [x]) z = (hasL L z || (x.id == z)) := by simp [hasL]
theorem place_snoc {L : List Ot} {x : Ot} (h : hasL L x.id = false) (z : Int) : place (L ++ [x]) z = if z = x.id then some L.length else place L z := by
  have hn := place_none h
  unfold place at *
  rw [List.findIdx?_append]
  by_cases e : z = x.id
  · subst e
    rw [hn]
    simp [List.findIdx?_cons]
  · have e' : (x.id == z) = false := by simp; omega
    simp [List.findIdx?_cons, e, e']
theorem adds_iff {L : List Ot} {x : Ot} : adds L x = true ↔ x.may = true ∧ hasL L x.id = false := by simp [adds]
theorem emit_yes {L : List Ot} {x : Ot} (h : adds L x = true) : emit L x = L ++ [x] := by rw [emit, if_pos h]
theorem emit_no {L : List Ot} {x : Ot} (h : adds L x = false) : emit L x = L := by rw [emit, if_neg (by simp [h])]
theorem emit_len (L : List Ot) (x : Ot) : (emit L x).length ≤ L.length + 1 := by unfold emit; split <;> simp
theorem emit_mem {L : List Ot} {x y : Ot} (h : y ∈ emit L x) : y ∈ L ∨ (y = x ∧ x.may = true) := by
  unfold emit at h
  split at h
  · rename_i ha
    rcases List.mem_append.1 h with h | h
    · exact .inl h
    · exact .inr ⟨by simpa using h, (adds_iff.1 ha).1⟩
  · exact .inl h
/-- Unlike commands. -/
def Unlike (L : List Ot) : Prop := L.Pairwise (fun x y => x.id ≠ y.id)
theorem unlike_nil : Unlike [] := List.Pairwise.nil
theorem unlike_emit {L : List Ot} (h : Unlike L) (x : Ot) : Unlike (emit L x) := by
  unfold emit
  split
  · rename_i ha
    refine List.pairwise_append.2 ⟨h, by simp, fun y hy z hz => ?_⟩
    rw [List.mem_singleton] at hz
    subst hz
    intro e
    have := hasL_iff.2 ⟨y, hy, e⟩
    rw [(adds_iff.1 ha).2] at this
    cases this
  · exact h
end Go.Proofs.YtgnccpmkdgfjeaaGreat

namespace Go.Proofs.YtgnccpmkdgfjeaaGreat
set_option linter.unusedVariables false
open Go.ChangeShapes Go.WideShapes Go.ChangeAt Go.RowKit

/-- One operation that comes up next, behind a name that no tactic looks into. -/
structure Stepping (P : Program) (ops : Array Oper) (o : Oper) (a : Act) (w : World) (K : Act → World → Prop) (Q : Exit → Act → World → Prop) (E : Prop) : Prop where
  go : if Region.wanted o (yielded ops a.tmps) = true then Oper.wp P o a w K Q else E
section
variable {P : Program} {md : Region.Mode} {ops : Array Oper} {a : Act} {w : World} {Q : Exit → Act → World → Prop} {S : World → Prop}
theorem ready_cons {fuel : Nat} {listed : Array Bool} {i : Nat} {o : Oper} {rs : List Nat} (ho : ops[i]? = some o)
    (h : ∀ K' : Act → World → Prop, Shut (∀ a w, S w → (S w → wpAnyH P md ops Q S fuel (listed.setIfInBounds i true) a w) → K' a w) → Stepping P ops o a w K' Q (K' (a.put o.dst undef) w))
    (hs : AllReadyH P md ops Q S fuel listed a w rs) : AllReadyH P md ops Q S fuel listed a w (i :: rs) := AllReadyH.cons ho (fun K' hK => (h K' hK).go) hs
end
section
variable {P : Program} {ops : Array Oper} {o : Oper} {a : Act} {w w' : World} {Q : Exit → Act → World → Prop} {K : Act → World → Prop} {E : Prop}
theorem wanted_step (hg : o.guard = none) (h : Oper.wp P o a w K Q) : Stepping P ops o a w K Q E := by
  constructor
  rw [if_pos (show Region.wanted o (yielded ops a.tmps) = true by simp [Region.wanted, hg])]
  exact h
theorem call_step {f : FuncId} {args : Array Value} (hg : o.guard = none) (hrun : (execOp a.eval o).run P w = .ok (.enter f args) w) (h : Calls P f args w fun e w' => ∃ v, e = .returned v ∧ K (a.put o.dst v) w') :
    Stepping P ops o a w K Q E := by
  refine wanted_step hg ?_
  unfold Oper.wp
  rw [hrun, Oper.upon_enter]
  exact h.mono (by rintro _ w' ⟨v, rfl, hk⟩; exact hk)
/-- A call's answer, handed on where it is wanted. -/
theorem Calls.hand {f : FuncId} {args : Array Value} {R : Value → World → Prop} {d : Option Tmp} (h : Calls P f args w fun e w' => ∃ v, e = .returned v ∧ R v w') (hk : ∀ v w', R v w' → K (a.put d v) w') :
    Calls P f args w fun e w' => ∃ v, e = .returned v ∧ K (a.put d v) w' := h.mono (by rintro _ w' ⟨v, rfl, hr⟩; exact ⟨v, rfl, hk v w' hr⟩)
theorem store_step (hg : o.guard = none) (ty : TypeId) (x y : Operand) (ho : o.op = .store ty x y) (g off : Nat) (bt : TypeId) (vs us : List Value) (hx : a.eval x = .pointer (some ⟨g, off, none⟩)) (hy : a.eval y = .agg (aggV us)) (hb : w.heap[g]? = some (vobj bt vs)) (hl : off + us.length ≤ vs.length) (hi : (P.info? ty).map (·.size) = some us.length) (h1 : Ones us)
    (h : ∀ w', w'.heap[g]? = some (vobj bt (putV vs off us)) → Frm (· = g) w w' → w'.heap.size = w.heap.size → K (a.put o.dst undef) w') :
    Stepping P ops o a w K Q E :=
  wanted_step hg (wp_store_mid ty x y ho g off (aggV us) hx hy (by rw [aggV_size]; exact vobj_there hb _ _ hl) (by rw [hi, aggV_size]) (aggV_one h1)
    (h _ (vobj_puts us vs off w hb) (frm_setCells (F := (· = g)) (b := g) rfl _ _ _ _ (Frm.refl _ _)) (size_setCellsV _ _ _ _)))
theorem store1_step (hg : o.guard = none) (ty : TypeId) (x y : Operand) (ho : o.op = .store ty x y) (g j : Nat) (bt : TypeId) (vs : List Value) (v : Value) (hx : a.eval x = .pointer (some ⟨g, j, none⟩)) (hy : a.eval y = v) (hb : w.heap[g]? = some (vobj bt vs)) (hj : j < vs.length) (hi : (P.info? ty).map (·.size) = some 1) (hc : v.cells = #[v]) (h1 : v.oneCell' = true)
    (h : ∀ w', w'.heap[g]? = some (vobj bt (vs.set j v)) → Frm (· = g) w w' → w'.heap.size = w.heap.size → K (a.put o.dst undef) w') :
    Stepping P ops o a w K Q E := by
  refine wanted_step hg ?_
  unfold Oper.wp
  simp only [execOp, ho, hx, hy, Instr.storeAt, Instr.sureAddr, Sem.run_bind, Sem.run_pure, Result.andThen_ok, run_storeVar_one w g j ty v hc (vobj_there hb j 1 (by omega)) hi h1]
  exact h _ (vobj_puts [v] vs j w hb) (frm_setCells (F := (· = g)) (b := g) rfl _ _ _ _ (Frm.refl _ _)) (size_setCellsV _ _ _ _)
end
end Go.Proofs.YtgnccpmkdgfjeaaGreat

namespace Go.Proofs.YtgnccpmkdgfjeaaGreat
set_option linter.unusedVariables false
open Go.ChangeShapes Go.WideShapes Go.ChangeAt Go.RowKit

theorem tO : SlT Tryz.prog orec 43 83 := slT_of (z := .agg #[.int .i64 0, .int .i64 0, .int .i64 0, .int .i64 0, .int .u64 0]) (n := 5) (by_ := 40) (by kernel_rfl) (by kernel_rfl) rfl (by decide) rfl
/-- An outcome by value, its cells written out. -/
abbrev outV (x : Ot) : Value := .agg #[.int .i64 x.id, .int .i64 x.kind, .int .i64 x.cause, .int .i64 x.val, .int .u64 x.tm]
/-- What came of pairs, of members: outcomes like one. -/
def toldL (x : Ot) (ps : List P2) : List Ot := ps.map (fun p => ⟨p.a, x.kind, x.cause, p.b, x.tm⟩)
def failedL (x : Ot) (ms : List P2) : List Ot := ms.map (fun p => ⟨p.a, x.kind, x.cause, x.val, x.tm⟩)
theorem toldL_snoc (x : Ot) (ps : List P2) (p : P2) : toldL x (ps ++ [p]) = toldL x ps ++ [⟨p.a, x.kind, x.cause, p.b, x.tm⟩] := by simp [toldL]
theorem failedL_snoc (x : Ot) (ps : List P2) (p : P2) : failedL x (ps ++ [p]) = failedL x ps ++ [⟨p.a, x.kind, x.cause, x.val, x.tm⟩] := by simp [failedL]
theorem Frm.then_low {F : Nat → Prop} {a w w' : World} (h : Frm F a w) (hb : Below a.heap.size w w') : Frm F a w' :=
  ⟨hb.os.trans h.os, hb.tape.trans h.tape, hb.output.trans h.output, Nat.le_trans h.size hb.size, fun j hj hn => (hb.block j hj).trans (h.block j hj hn)⟩
theorem OwnR.frm_low {α : Type} {R : Rec α} {w w' : World} {base : Nat} {e : TypeId} {v : Value} {V : List α} {F : Nat → Prop} (h : OwnR R w base e v V) (hf : Frm F w w') (hF : ∀ j, F j → j < base) : OwnR R w' base e v V := by
  refine ⟨⟨h.1.1, ?_⟩, h.2⟩
  rcases h.1.2 with h0 | ⟨g, cap, cur, hv, hb, hh, hr⟩
  · exact .inl h0
  · exact .inr ⟨g, cap, cur, hv, hb, by rw [hf.block g (heap_lt hh) (fun hc => by have := hF g hc; omega)]; exact hh, hr⟩
theorem splitL_len (zs : List Int) (ms : List P2) (vs : List Int) : (splitL zs ms vs).length ≤ ms.length := by
  unfold splitL
  split
  · rw [pairL_len]; exact Nat.le_refl _
  · exact Nat.zero_le _

set_option maxRecDepth 100000 in
set_option maxHeartbeats 4000000 in
theorem ktold_fr (A : Option Addr) (n c : Nat) (M : Option Addr) (m d : Nat) (zs : List Int) (ms : List P2) (B : Option Addr) (k e : Nat) (vs : List Int) (x : Ot) (w : World) (h : Bat w A n c M m d zs ms) (hv : RowR irec w B k vs) (hm : m ≤ 1000) :
    Calls Tryz.prog 167 #[batV A n c M m d, .slice B k e, outV x] w fun r w' => ∃ P q f, r = .returned (.slice P q f) ∧ RowR orec w' P q (toldL x (splitL zs ms vs)) ∧ Fresh w.heap.size P ∧ Below w.heap.size w w' := by
  obtain ⟨W, hW, hb, k0, k1, hsz⟩ := two_new w (bobj 91 A n c M m d) (vobj 83 x.vals)
  have HO := Lib.hid (bsplit_fr A n c M m d zs ms B k e vs W (h.below hb) (hv.later hb) hm)
  have HW : Hid ((w.alloc (.cells #[.slice A n c, .slice M m d] 91)).alloc (.cells #[.int .i64 x.id, .int .i64 x.kind, .int .i64 x.cause, .int .i64 x.val, .int .u64 x.tm] 83) = W) := Lib.hid hW
  obtain ⟨q0, q1⟩ := bobj_cells k0
  have B0 := Lib.hid hb
  have K1 := Lib.hid k1
  have SZ := Lib.hid hsz
  have hml := h.mlen
  have hll := splitL_len zs ms vs
  clear hW hb k0 k1 hsz h hv
  go_enter Tryz.func167, Tryz.ntmps167
  go_wp2_with fail
  rw [HW.out]
  refine HO.out.mono ?_
  rintro r V ⟨P, q, f, rfl, hr, hqf, hfr, bV⟩
  obtain ⟨L, hL⟩ : ∃ L, L = splitL zs ms vs := ⟨_, rfl⟩
  rw [← hL] at hr hll
  have HLL := Lib.hid hL
  clear hL
  have hq : q ≤ 1000 := by have := hr.1; omega
  have PR := Lib.hid hr
  have FR := Lib.hid hfr
  have QL := Lib.hid hr.1
  have BV := Lib.hid (B0.out.trans (bV.mono B0.out.size))
  have SV : Hid (w.heap.size + 2 ≤ V.heap.size) := Lib.hid (by have := bV.size; have := SZ.out; omega)
  have KV := Lib.hid (kb_below K1.out bV)
  have SW := Lib.hid SZ.out
  clear q0 q1 hr hfr bV HO K1 hml hll B0 SZ
  go_wp2_with (first
    | (refine wpList_makeS tO rfl _ _ rfl rfl rfl (by omega) ?_; intro w1 o1 b1; have O1 := Lib.hid o1; have B1 := Lib.hid b1; clear o1 b1))
  go_loopg [23, 9] q (fun g v23 v9 wr => ∃ (j : Nat) (i v : Int), j + g = q ∧ v23 = .int .i64 j ∧ OwnR orec wr V.heap.size 83 v9 (toldL x (L.take j)) ∧ wr.heap[w.heap.size + 1]? = some (vobj 83 (Ot.mk i x.kind x.cause v x.tm).vals) ∧ Frm (· = w.heap.size + 1) V wr)
  case atStart => exact ⟨0, x.id, x.val, by omega, rfl, by simpa [toldL] using O1.out, kb_below KV.out B1.out, Frm.of_below B1.out⟩
  case round =>
    obtain ⟨j, i, v, hj, rfl, hown, hk, hf⟩ := hrel
    have HJ := Lib.hid hj
    have OW := Lib.hid hown
    have KR := Lib.hid hk
    have FF := Lib.hid hf
    have pr : RowR prec wr P q L := PR.out.apart hf (fun b off e h0 hx => by have := FR.out b off e; have := SW.out; omega)
    clear hj hown hk hf O1 B1
    by_cases hlt : j < q
    · have hlt' : (j : Int) < q := by omega
      obtain ⟨b, off, y, rfl, hx, q0, q1⟩ := pr.pair_at hlt
      have HX := Lib.hid hx
      have hsr : w.heap.size + 2 ≤ wr.heap.size := Nat.le_trans SV.out FF.out.size
      have SR := Lib.hid hsr
      clear hx pr hsr
      go_wp2
      have fd : Frm (· = w.heap.size + 1) V (wr.alloc (.cells #[.int .i64 y.a, .int .i64 y.b] 281)).drew := (FF.out.alloc _).ali (drew_ali _)
      have kg : (wr.alloc (.cells #[.int .i64 y.a, .int .i64 y.b] 281)).drew.heap[wr.heap.size]? = some (.cells #[.int .i64 y.a, .int .i64 y.b] 281) := heap_alloc_at wr _
      have kl : (wr.alloc (.cells #[.int .i64 y.a, .int .i64 y.b] 281)).drew.heap[w.heap.size + 1]? = some (vobj 83 (Ot.mk i x.kind x.cause v x.tm).vals) := kb_alloc KR.out _
      have ow : OwnR orec (wr.alloc (.cells #[.int .i64 y.a, .int .i64 y.b] 281)).drew V.heap.size 83 u9 (toldL x (L.take j)) := (OW.out.alloc _).ali (drew_ali _)
      generalize hwd : (wr.alloc (.cells #[.int .i64 y.a, .int .i64 y.b] 281)).drew = wd at fd kg kl ow
      have HWD := Lib.hid hwd
      have FD := Lib.hid fd
      have KL := Lib.hid kl
      have OD := Lib.hid ow
      have HS : Hid (∀ wx, Frm (· = w.heap.size + 1) wd wx → wx.cell? ⟨wr.heap.size, 0, none⟩ = some (.int .i64 y.a) ∧ wx.cell? ⟨wr.heap.size, 1, none⟩ = some (.int .i64 y.b)) := Lib.hid (fun wx hx => by
        have := (hx.block _ (heap_lt kg) (by show ¬ wr.heap.size = w.heap.size + 1; have := SR.out; omega)).trans kg
        exact ⟨by rw [cell_of this]; rfl, by rw [cell_of this]; rfl⟩)
      clear fd kg kl ow hwd q0 q1
      refine wp_region_held_drew (S := fun wx => wx.cell? ⟨wr.heap.size, 0, none⟩ = some (.int .i64 y.a) ∧ wx.cell? ⟨wr.heap.size, 1, none⟩ = some (.int .i64 y.b)) (by kernel_rfl) (by rw [HWD.out]; exact HS.out _ (Frm.refl _ _)) (fun hHeld => ?_)
      rw [HWD.out]
      rw [HWD.out] at hHeld
      refine wpAnyH_take (i := 0) (oi := ⟨_, _, _, _, _, _⟩) (v := ?_) rfl (by kernel_rfl) (by kernel_rfl) (by kernel_rfl) (fun _ _ _ h => h) (Or.inl ⟨by rfl, ?_⟩) (by assumption) ?_
      rotate_left
      · intro w hSw; (try dsimp only at hSw); go_simp; try (with_reducible rfl)
      try go_frame
      refine wpAnyH_take (i := 1) (oi := ⟨_, _, _, _, _, _⟩) (v := ?_) rfl (by kernel_rfl) (by kernel_rfl) (by kernel_rfl) (fun _ _ _ h => h) (Or.inl ⟨by rfl, ?_⟩) (by assumption) ?_
      rotate_left
      · intro w hSw; (try dsimp only at hSw); go_simp; try (with_reducible rfl)
      try go_frame
      refine wpAnyH_take (i := 2) (oi := ⟨_, _, _, _, _, _⟩) (v := ?_) rfl (by kernel_rfl) (by kernel_rfl) (by kernel_rfl) (fun _ _ _ h => h) (Or.inl ⟨by rfl, ?_⟩) (by assumption) ?_
      rotate_left
      · intro w hSw; (try dsimp only at hSw); go_simp; try (with_reducible rfl)
      try go_frame
      refine wpAnyH_take (i := 3) (oi := ⟨_, _, _, _, _, _⟩) (v := ?_) rfl (by kernel_rfl) (by kernel_rfl) (by kernel_rfl) (fun _ _ _ h => h) (Or.inl ⟨by rfl, ?_⟩) (by assumption) ?_
      rotate_left
      · intro w hSw; (try dsimp only at hSw); go_simp; try (with_reducible rfl)
      try go_frame
      refine wpAnyH_take (i := 4) (oi := ⟨_, _, _, _, _, _⟩) (v := ?_) rfl (by kernel_rfl) (by kernel_rfl) (by kernel_rfl) (fun _ _ _ h => h) (Or.inl ⟨by rfl, ?_⟩) (by assumption) ?_
      rotate_left
      · intro w hSw; (try dsimp only at hSw); go_simp; try (with_reducible rfl)
      try go_frame
      refine wpAnyH_ready (rs := [5]) (by kernel_rfl) (by simp) ?_
      refine ready_cons (i := 5) (o := ⟨_, _, _, _, _, _⟩) rfl ?_ AllReadyH.nil
      intro K hK
      refine store1_step rfl 3 _ _ rfl (w.heap.size + 1) 0 83 (Ot.mk i x.kind x.cause v x.tm).vals (.int .i64 y.a) rfl rfl KL.out (by show 0 < 5; decide) size1i rfl rfl ?_
      intro w5 k5 f5 z5
      clear z5
      have K5 : Hid (w5.heap[w.heap.size + 1]? = some (vobj 83 (Ot.mk y.a x.kind x.cause v x.tm).vals)) := Lib.hid k5
      have F5 := Lib.hid f5
      refine hK.out _ _ (HS.out _ f5) (fun hHeld => ?_)
      clear hK K k5 f5
      try go_frame
      refine wpAnyH_take (i := 6) (oi := ⟨_, _, _, _, _, _⟩) (v := ?_) rfl (by kernel_rfl) (by kernel_rfl) (by kernel_rfl) (fun _ _ _ h => h) (Or.inl ⟨by rfl, ?_⟩) (by assumption) ?_
      rotate_left
      · intro w hSw; (try dsimp only at hSw); go_simp; try (with_reducible rfl)
      try go_frame
      refine wpAnyH_ready (rs := [7]) (by kernel_rfl) (by simp) ?_
      refine ready_cons (i := 7) (o := ⟨_, _, _, _, _, _⟩) rfl ?_ AllReadyH.nil
      intro K hK
      refine store1_step rfl 3 _ _ rfl (w.heap.size + 1) 3 83 (Ot.mk y.a x.kind x.cause v x.tm).vals (.int .i64 y.b) rfl rfl K5.out (by show 3 < 5; decide) size1i rfl rfl ?_
      intro w7 k7 f7 z7
      clear z7
      have K7 : Hid (w7.heap[w.heap.size + 1]? = some (vobj 83 (Ot.mk y.a x.kind x.cause y.b x.tm).vals)) := Lib.hid k7
      have F7 := Lib.hid f7
      refine hK.out _ _ (HS.out _ (F5.out.trans f7 (fun _ _ e => e))) (fun hHeld => ?_)
      clear hK K k7 f7
      try go_frame
      refine wpAnyH_done (by kernel_rfl) ?_ _
      have F57 := F5.out.trans F7.out (fun _ _ e => e)
      have F9 : Hid (Frm (· = w.heap.size + 1) V w7) := Lib.hid (FD.out.trans F57 (fun _ _ e => e))
      have O8 : Hid (OwnR orec (w7.alloc (.cells #[.int .i64 y.a, .int .i64 x.kind, .int .i64 x.cause, .int .i64 y.b, .int .u64 x.tm] 83)) V.heap.size 83 u9 (toldL x (L.take j))) := Lib.hid ((OD.out.frm_low F57 (fun j e => by have := SV.out; omega)).alloc _)
      have S8 : Hid (RowR orec (w7.alloc (.cells #[.int .i64 y.a, .int .i64 x.kind, .int .i64 x.cause, .int .i64 y.b, .int .u64 x.tm] 83)) (some ⟨w7.heap.size, 0, none⟩) 1 [(⟨y.a, x.kind, x.cause, y.b, x.tm⟩ : Ot)]) := Lib.hid (RowR.one (R := orec) w7 ⟨y.a, x.kind, x.cause, y.b, x.tm⟩ 83 (cs := #[.int .i64 y.a, .int .i64 x.kind, .int .i64 x.cause, .int .i64 y.b, .int .u64 x.tm]) rfl)
      have L8 : Hid ((toldL x (L.take j)).length + 1 ≤ 1048576) := Lib.hid (by rw [toldL, List.length_map, List.length_take]; omega)
      have Z8 : Hid (V.heap.size ≤ (w7.alloc (.cells #[.int .i64 y.a, .int .i64 x.kind, .int .i64 x.cause, .int .i64 y.b, .int .u64 x.tm] 83)).heap.size) := Lib.hid (F9.out.alloc _).size
      obtain ⟨m0, m1, m2, m3, m4⟩ := cellsO K7.out
      simp only at m0 m1 m2 m3 m4
      clear F57 HS KL OD KR OW
      go_wp2_with (first
        | (at_builtin; refine wpList_appS tO (base := V.heap.size) rfl (.tmp 33) (.tmp 35) rfl rfl rfl O8.out S8.out L8.out Z8.out ?_;
           intro y9 w9 own gr _; have LO := Lib.hid (grown_low gr Z8.out (fun g hg => O8.out.low g hg)); have OX := Lib.hid own; clear own gr))
      go_roundg (q - (j + 1))
      case measure => have := HJ.out; omega
      case rel =>
        refine ⟨j + 1, y.a, y.b, by omega, by simp, ?_, ?_, (F9.out.alloc _).then_low LO.out⟩
        · rw [take_more HX.out, toldL_snoc]
          exact OX.out
        · exact (LO.out.block _ (by have := SV.out; omega)).trans (kb_alloc K7.out _)
    · have hlt' : ¬ (j : Int) < q := by omega
      obtain ⟨P', n', c', hv9, r9, _, _, _⟩ := OW.out.row'
      subst hv9
      have R9 := Lib.hid r9
      have FR9 := Lib.hid ((OwnR.fresh OW.out).mono BV.out.size)
      have hjq : j = q := by have := HJ.out; omega
      have LT : Hid (L.take j = L) := Lib.hid (List.take_of_length_le (by rw [QL.out]; omega))
      clear r9 pr
      go_wp2
      go_ret
      have h2 := R9.out
      rw [LT.out, HLL.out] at h2
      exact ⟨_, _, ⟨_, rfl⟩, h2, FR9.out, BV.out.trans (FF.out.below BV.out.size (fun j hj e => by omega))⟩

set_option maxRecDepth 100000 in
set_option maxHeartbeats 4000000 in
theorem kfailed_fr (A : Option Addr) (n c : Nat) (M : Option Addr) (m d : Nat) (ms : List P2) (x : Ot) (w : World) (h : RowR prec w M m ms) (hm : m ≤ 1000) :
    Calls Tryz.prog 168 #[batV A n c M m d, outV x] w fun r w' => ∃ P q f, r = .returned (.slice P q f) ∧ RowR orec w' P q (failedL x ms) ∧ Fresh w.heap.size P ∧ Below w.heap.size w w' := by
  obtain ⟨V, hW, hb, k0, k1, hsz⟩ := two_new w (bobj 91 A n c M m d) (vobj 83 x.vals)
  have HW : Hid ((w.alloc (.cells #[.slice A n c, .slice M m d] 91)).alloc (.cells #[.int .i64 x.id, .int .i64 x.kind, .int .i64 x.cause, .int .i64 x.val, .int .u64 x.tm] 83) = V) := Lib.hid hW
  obtain ⟨q0, q1⟩ := bobj_cells k0
  have BV := Lib.hid hb
  have KB := Lib.hid k0
  have KV := Lib.hid k1
  have SV := Lib.hid hsz
  have QL := Lib.hid h.1
  have PR := Lib.hid (h.later hb)
  have PL : Hid (∀ b off, M = some ⟨b, off, none⟩ → 0 < m → b < w.heap.size) := Lib.hid (fun b off e h0 => h.lt e h0)
  clear hW hb k0 k1 hsz h
  go_enter Tryz.func168, Tryz.ntmps168
  go_upto_region 1 with fail
  rw [HW.out]
  go_wp2_with (first
    | (refine wpList_makeS tO rfl _ _ rfl rfl rfl (by omega) ?_; intro w1 o1 b1; have O1 := Lib.hid o1; have B1 := Lib.hid b1; clear q0 q1; obtain ⟨q0, q1⟩ := bobj_cells (kb_below KB.out b1); clear o1 b1))
  clear q0 q1
  go_loopg [15, 5] m (fun g v15 v5 wr => ∃ (j : Nat) (i : Int), j + g = m ∧ v15 = .int .i64 j ∧ OwnR orec wr V.heap.size 83 v5 (failedL x (ms.take j)) ∧ wr.heap[w.heap.size + 1]? = some (vobj 83 (Ot.mk i x.kind x.cause x.val x.tm).vals) ∧ Frm (· = w.heap.size + 1) V wr)
  case atStart => exact ⟨0, x.id, by omega, rfl, by simpa [failedL] using O1.out, kb_below KV.out B1.out, Frm.of_below B1.out⟩
  case round =>
    obtain ⟨j, i, hj, rfl, hown, hk, hf⟩ := hrel
    have HJ := Lib.hid hj
    have OW := Lib.hid hown
    have KR := Lib.hid hk
    have FF := Lib.hid hf
    have pr : RowR prec wr M m ms := PR.out.apart hf (fun b off e h0 hx => by have := PL.out b off e h0; omega)
    clear hj hown hk hf O1 B1
    by_cases hlt : j < m
    · have hlt' : (j : Int) < m := by omega
      obtain ⟨b, off, y, rfl, hx, q0, q1⟩ := pr.pair_at hlt
      have HX := Lib.hid hx
      have hsr : w.heap.size + 2 ≤ wr.heap.size := by have := FF.out.size; have := SV.out; omega
      have SR := Lib.hid hsr
      clear hx pr hsr
      go_upto_region 5 with fail
      have fd : Frm (· = w.heap.size + 1) V (wr.alloc (.cells #[.int .i64 y.a, .int .i64 y.b] 185)) := FF.out.alloc _
      have kg : (wr.alloc (.cells #[.int .i64 y.a, .int .i64 y.b] 185)).heap[wr.heap.size]? = some (.cells #[.int .i64 y.a, .int .i64 y.b] 185) := heap_alloc_at wr _
      have kl : (wr.alloc (.cells #[.int .i64 y.a, .int .i64 y.b] 185)).heap[w.heap.size + 1]? = some (vobj 83 (Ot.mk i x.kind x.cause x.val x.tm).vals) := kb_alloc KR.out _
      have ow : OwnR orec (wr.alloc (.cells #[.int .i64 y.a, .int .i64 y.b] 185)) V.heap.size 83 u5 (failedL x (ms.take j)) := OW.out.alloc _
      generalize (wr.alloc (.cells #[.int .i64 y.a, .int .i64 y.b] 185)) = wd at *
      have FD := Lib.hid fd
      have KL := Lib.hid kl
      have OD := Lib.hid ow
      have g0 : wd.cell? ⟨wr.heap.size, 0, none⟩ = some (.int .i64 y.a) := by rw [cell_of kg]; rfl
      have L8 : Hid ((failedL x (ms.take j)).length + 1 ≤ 1048576) := Lib.hid (by rw [failedL, List.length_map, List.length_take]; omega)
      clear fd kg kl ow q0 q1 KR OW
      go_wp2_with (first
        | (refine wpList_store_one rfl 3 _ _ rfl (w.heap.size + 1) 0 83 (Ot.mk i x.kind x.cause x.val x.tm).vals (.int .i64 y.a) rfl rfl ?hz (by show 0 < 5; decide) size1i rfl rfl ?_; (case hz => exact KL.out); intro w7 k7 f7 z7; clear z7;
           have K7 : Hid (w7.heap[w.heap.size + 1]? = some (vobj 83 (Ot.mk y.a x.kind x.cause x.val x.tm).vals)) := Lib.hid k7;
           have F9 : Hid (Frm (· = w.heap.size + 1) V w7) := Lib.hid (FD.out.trans f7 (fun _ _ e => e));
           have O8 : Hid (OwnR orec (w7.alloc (.cells #[.int .i64 y.a, .int .i64 x.kind, .int .i64 x.cause, .int .i64 x.val, .int .u64 x.tm] 83)) V.heap.size 83 u5 (failedL x (ms.take j))) := Lib.hid ((OD.out.frm_low f7 (fun j e => by have := SV.out; omega)).alloc _);
           have S8 : Hid (RowR orec (w7.alloc (.cells #[.int .i64 y.a, .int .i64 x.kind, .int .i64 x.cause, .int .i64 x.val, .int .u64 x.tm] 83)) (some ⟨w7.heap.size, 0, none⟩) 1 [(⟨y.a, x.kind, x.cause, x.val, x.tm⟩ : Ot)]) := Lib.hid (RowR.one (R := orec) w7 ⟨y.a, x.kind, x.cause, x.val, x.tm⟩ 83 (cs := #[.int .i64 y.a, .int .i64 x.kind, .int .i64 x.cause, .int .i64 x.val, .int .u64 x.tm]) rfl);
           have Z8 : Hid (V.heap.size ≤ (w7.alloc (.cells #[.int .i64 y.a, .int .i64 x.kind, .int .i64 x.cause, .int .i64 x.val, .int .u64 x.tm] 83)).heap.size) := Lib.hid (F9.out.alloc _).size;
           obtain ⟨m0, m1, m2, m3, m4⟩ := cellsO K7.out;
           simp only at m0 m1 m2 m3 m4;
           clear k7 f7 g0 KL OD)
        | (at_builtin; refine wpList_appS tO (base := V.heap.size) rfl (.tmp 22) (.tmp 24) rfl rfl rfl O8.out S8.out L8.out Z8.out ?_;
           intro y9 w9 own gr _; have LO := Lib.hid (grown_low gr Z8.out (fun g hg => O8.out.low g hg)); have OX := Lib.hid own; clear own gr))
      go_roundg (m - (j + 1))
      case measure => have := HJ.out; omega
      case rel =>
        refine ⟨j + 1, y.a, by omega, by simp, ?_, ?_, (F9.out.alloc _).then_low LO.out⟩
        · rw [take_more HX.out, failedL_snoc]
          exact OX.out
        · exact (LO.out.block _ (by have := SV.out; omega)).trans (kb_alloc K7.out _)
    · have hlt' : ¬ (j : Int) < m := by omega
      obtain ⟨P', n', c', hv9, r9, _, _, _⟩ := OW.out.row'
      subst hv9
      have R9 := Lib.hid r9
      have FR9 := Lib.hid ((OwnR.fresh OW.out).mono BV.out.size)
      have hjq : j = m := by have := HJ.out; omega
      have LT : Hid (ms.take j = ms) := Lib.hid (List.take_of_length_le (by rw [QL.out]; omega))
      clear r9 pr
      go_wp2
      go_ret
      have h2 := R9.out
      rw [LT.out] at h2
      exact ⟨_, _, ⟨_, rfl⟩, h2, FR9.out, BV.out.trans (FF.out.below BV.out.size (fun j hj e => by omega))⟩

/-- What came of a call's members. -/
def outsL (zs : List Int) (ms : List P2) (K : CN) (kind : Int) (vs : List Int) (t : Int) : List Ot :=
  if kind = 1 then toldL ⟨0, kind, 0, 0, t⟩ (splitL zs ms vs) else if kind = 3 then toldL ⟨0, kind, K.ca, 0, t⟩ (splitL zs ms vs) else if kind = 4 then failedL ⟨0, kind, K.ca, 0, t⟩ ms else []
set_option maxRecDepth 100000 in
set_option maxHeartbeats 2000000 in
theorem kouts_fr (A : Option Addr) (n c : Nat) (M : Option Addr) (m d : Nat) (K : CN) (zs : List Int) (ms : List P2) (kind : Int) (B : Option Addr) (k e : Nat) (vs : List Int) (t : Int) (w : World) (h : Bat w A n c M m d zs ms) (hv : RowR irec w B k vs) (hm : m ≤ 1000) :
    Calls Tryz.prog 129 #[callV A n c M m d K, .int .i64 kind, .slice B k e, .int .u64 t] w fun r w' => ∃ P q f, r = .returned (.slice P q f) ∧ RowR orec w' P q (outsL zs ms K kind vs t) ∧ Fresh w.heap.size P ∧ Below w.heap.size w w' := by
  have hb := below_alloc w (kobj A n c M m d K)
  have k0 := heap_alloc_at w (kobj A n c M m d K)
  have q0 : (w.alloc (.cells #[.slice A n c, .slice M m d, .int .i64 K.st, .int .i64 K.sp, .int .i64 K.ca, .int .u64 K.tm] 135)).cell? ⟨w.heap.size, 0, none⟩ = some (.slice A n c) := vobj_cell k0 rfl
  have q1 : (w.alloc (.cells #[.slice A n c, .slice M m d, .int .i64 K.st, .int .i64 K.sp, .int .i64 K.ca, .int .u64 K.tm] 135)).cell? ⟨w.heap.size, 1, none⟩ = some (.slice M m d) := vobj_cell k0 rfl
  have B0 : Hid (Below w.heap.size w (w.alloc (.cells #[.slice A n c, .slice M m d, .int .i64 K.st, .int .i64 K.sp, .int .i64 K.ca, .int .u64 K.tm] 135))) := Lib.hid hb
  have HT := Lib.hid (fun x => ktold_fr A n c M m d zs ms B k e vs x (w.alloc (.cells #[.slice A n c, .slice M m d, .int .i64 K.st, .int .i64 K.sp, .int .i64 K.ca, .int .u64 K.tm] 135)) (h.below hb) (hv.later hb) hm)
  have HF := Lib.hid (fun x => kfailed_fr A n c M m d ms x (w.alloc (.cells #[.slice A n c, .slice M m d, .int .i64 K.st, .int .i64 K.sp, .int .i64 K.ca, .int .u64 K.tm] 135)) (h.mr.later hb) hm)
  clear hb k0 h hv hm
  by_cases h1 : kind = 1
  · have e1 : (kind == 1) = true := by simp [h1]
    rw [show outsL zs ms K kind vs t = toldL ⟨0, kind, 0, 0, t⟩ (splitL zs ms vs) by simp [outsL, h1]]
    clear h1
    go_enter Tryz.func129, Tryz.ntmps129
    go_wp2_with fail
    refine (HT.out ⟨0, kind, 0, 0, t⟩).mono ?_
    rintro r V ⟨P, q, f, rfl, hr, fV, bV⟩
    have R9 := Lib.hid hr
    have F9 := Lib.hid (fV.mono B0.out.size)
    have B9 := Lib.hid (B0.out.trans (bV.mono B0.out.size))
    clear hr fV bV q0 q1
    go_wp2
    go_ret
    exact ⟨_, _, _, rfl, R9.out, F9.out, B9.out⟩
  · have e1 : (kind == 1) = false := by simp [h1]
    by_cases h3 : kind = 3
    · have e3 : (kind == 3) = true := by simp [h3]
      rw [show outsL zs ms K kind vs t = toldL ⟨0, kind, K.ca, 0, t⟩ (splitL zs ms vs) by simp [outsL, h3]]
      clear h1 h3
      go_enter Tryz.func129, Tryz.ntmps129
      go_wp2_with fail
      refine (HT.out ⟨0, kind, K.ca, 0, t⟩).mono ?_
      rintro r V ⟨P, q, f, rfl, hr, fV, bV⟩
      have R9 := Lib.hid hr
      have F9 := Lib.hid (fV.mono B0.out.size)
      have B9 := Lib.hid (B0.out.trans (bV.mono B0.out.size))
      clear hr fV bV q0 q1
      go_wp2
      go_ret
      exact ⟨_, _, _, rfl, R9.out, F9.out, B9.out⟩
    · have e3 : (kind == 3) = false := by simp [h3]
      by_cases h4 : kind = 4
      · have e4 : (kind == 4) = true := by simp [h4]
        rw [show outsL zs ms K kind vs t = failedL ⟨0, kind, K.ca, 0, t⟩ ms by simp [outsL, h4]]
        clear h1 h3 h4
        go_enter Tryz.func129, Tryz.ntmps129
        go_wp2_with fail
        refine (HF.out ⟨0, kind, K.ca, 0, t⟩).mono ?_
        rintro r V ⟨P, q, f, rfl, hr, fV, bV⟩
        have R9 := Lib.hid hr
        have F9 := Lib.hid (fV.mono B0.out.size)
        have B9 := Lib.hid (B0.out.trans (bV.mono B0.out.size))
        clear hr fV bV q0 q1
        go_wp2
        go_ret
        exact ⟨_, _, _, rfl, R9.out, F9.out, B9.out⟩
      · have e4 : (kind == 4) = false := by simp [h4]
        rw [show outsL zs ms K kind vs t = [] by simp [outsL, h1, h3, h4]]
        clear h1 h3 h4
        go_enter Tryz.func129, Tryz.ntmps129
        go_wp2
        go_ret
        exact ⟨none, 0, 0, rfl, RowR.nil _, Fresh.none _, B0.out⟩

theorem ktold_any (A : Option Addr) (n c : Nat) (M : Option Addr) (m d : Nat) (zs : List Int) (ms : List P2) (B : Option Addr) (k e : Nat) (vs : List Int) (x : Ot) (w : World) (h : Bat w A n c M m d zs ms) (hv : RowR irec w B k vs) (hm : m ≤ 1000) :
    Calls Tryz.prog 167 #[batV A n c M m d, .slice B k e, outV x] w fun r w' => ∃ P q f, r = .returned (.slice P q f) ∧ RowR orec w' P q (toldL x (splitL zs ms vs)) ∧ Below w.heap.size w w' :=
  (ktold_fr A n c M m d zs ms B k e vs x w h hv hm).mono fun _ _ ⟨P, q, f, h1, h2, _, h3⟩ => ⟨P, q, f, h1, h2, h3⟩
theorem kfailed_any (A : Option Addr) (n c : Nat) (M : Option Addr) (m d : Nat) (ms : List P2) (x : Ot) (w : World) (h : RowR prec w M m ms) (hm : m ≤ 1000) :
    Calls Tryz.prog 168 #[batV A n c M m d, outV x] w fun r w' => ∃ P q f, r = .returned (.slice P q f) ∧ RowR orec w' P q (failedL x ms) ∧ Below w.heap.size w w' :=
  (kfailed_fr A n c M m d ms x w h hm).mono fun _ _ ⟨P, q, f, h1, h2, _, h3⟩ => ⟨P, q, f, h1, h2, h3⟩
theorem kouts_any (A : Option Addr) (n c : Nat) (M : Option Addr) (m d : Nat) (K : CN) (zs : List Int) (ms : List P2) (kind : Int) (B : Option Addr) (k e : Nat) (vs : List Int) (t : Int) (w : World) (h : Bat w A n c M m d zs ms) (hv : RowR irec w B k vs) (hm : m ≤ 1000) :
    Calls Tryz.prog 129 #[callV A n c M m d K, .int .i64 kind, .slice B k e, .int .u64 t] w fun r w' => ∃ P q f, r = .returned (.slice P q f) ∧ RowR orec w' P q (outsL zs ms K kind vs t) ∧ Below w.heap.size w w' :=
  (kouts_fr A n c M m d K zs ms kind B k e vs t w h hv hm).mono fun _ _ ⟨P, q, f, h1, h2, _, h3⟩ => ⟨P, q, f, h1, h2, h3⟩
end Go.Proofs.YtgnccpmkdgfjeaaGreat

namespace Go.Proofs.YtgnccpmkdgfjeaaGreat
set_option linter.unusedVariables false

abbrev Hol := Int × Int
def ltH (a b : Hol) : Bool := decide (a.1 < b.1) || (a.1 == b.1 && decide (a.2 < b.2))
theorem ltH_iff {a b : Hol} : ltH a b = true ↔ a.1 < b.1 ∨ (a.1 = b.1 ∧ a.2 < b.2) := by simp [ltH]
theorem ltH_not {a b : Hol} : ltH a b = false ↔ b.1 < a.1 ∨ (a.1 = b.1 ∧ b.2 ≤ a.2) := by
  rw [← Bool.not_eq_true, ltH_iff]
  omega
theorem ltH_irrefl (a : Hol) : ltH a a = false := by rw [ltH_not]; omega
theorem ltH_trans {a b c : Hol} (h : ltH a b = true) (k : ltH b c = true) : ltH a c = true := by
  rw [ltH_iff] at *
  omega
theorem ltH_tri (a b : Hol) : ltH a b = true ∨ a = b ∨ ltH b a = true := by
  rw [ltH_iff, ltH_iff]
  obtain ⟨a1, a2⟩ := a
  obtain ⟨b1, b2⟩ := b
  simp only [Prod.mk.injEq]
  omega
theorem ltH_asymm {a b : Hol} (h : ltH a b = true) : ltH b a = false := by rw [ltH_iff] at h; rw [ltH_not]; omega
theorem ltH_ne {a b : Hol} (h : ltH a b = true) : a ≠ b := by rintro rfl; rw [ltH_irrefl] at h; cases h
def cmpI (x y : Int) : Int := if x < y then -1 else if y < x then 1 else 0
def cmpH (a b : Hol) : Int := if cmpI a.1 b.1 = 0 then cmpI a.2 b.2 else cmpI a.1 b.1
theorem cmpH_lt (a b : Hol) : decide (cmpH a b < 0) = ltH a b := by
  have e : (cmpH a b < 0) ↔ ltH a b = true := by
    rw [ltH_iff]
    unfold cmpH cmpI
    split <;> split <;> (try split) <;> omega
  cases h : ltH a b
  · simp only [decide_eq_false_iff_not]; rw [e, h]; simp
  · simp only [decide_eq_true_eq]; rw [e, h]

def Rise (L : List Hol) : Prop := L.Pairwise (fun a b => ltH a b = true)
theorem rise_nil : Rise [] := List.Pairwise.nil
theorem Rise.nodup {L : List Hol} (h : Rise L) : L.Nodup := List.Pairwise.imp (fun hab => ltH_ne hab) h
theorem rise_unique : ∀ {L K : List Hol}, Rise L → Rise K → (∀ x, x ∈ L ↔ x ∈ K) → L = K
  | [], [], _, _, _ => rfl
  | [], y :: K, _, _, h => by have := (h y).2 (by simp); simp at this
  | x :: L, [], _, _, h => by have := (h x).1 (by simp); simp at this
  | x :: L, y :: K, hl, hk, h => by
    have hl1 := List.pairwise_cons.1 hl
    have hk1 := List.pairwise_cons.1 hk
    have hxy : x = y := by
      rcases List.mem_cons.1 ((h x).1 (by simp)) with e | e
      · exact e
      · rcases List.mem_cons.1 ((h y).2 (by simp)) with e' | e'
        · exact e'.symm
        · have a := hk1.1 x e
          have b := hl1.1 y e'
          have := ltH_asymm a
          rw [b] at this
          cases this
    subst hxy
    congr 1
    refine rise_unique hl1.2 hk1.2 fun z => ⟨fun hz => ?_, fun hz => ?_⟩
    · rcases List.mem_cons.1 ((h z).1 (by simp [hz])) with e | e
      · exact (ltH_ne (hl1.1 z hz) e.symm).elim
      · exact e
    · rcases List.mem_cons.1 ((h z).2 (by simp [hz])) with e | e
      · exact (ltH_ne (hk1.1 z hz) e.symm).elim
      · exact e

/-- One more, in its turn. -/
def insH (h : Hol) : List Hol → List Hol
  | [] => [h]
  | x :: L => if ltH x h then x :: insH h L else h :: x :: L
theorem mem_insH {h x : Hol} : ∀ {L : List Hol}, x ∈ insH h L ↔ x = h ∨ x ∈ L
  | [] => by simp [insH]
  | y :: L => by
    rw [insH]
    split
    · rw [List.mem_cons, mem_insH, List.mem_cons]
      constructor <;> rintro (a | a | a) <;> simp [a]
    · rw [List.mem_cons]
theorem length_insH (h : Hol) : ∀ L : List Hol, (insH h L).length = L.length + 1
  | [] => rfl
  | y :: L => by
    rw [insH]
    split
    · simp [length_insH h L]
    · rfl
theorem rise_insH {h : Hol} : ∀ {L : List Hol}, Rise L → h ∉ L → Rise (insH h L)
  | [], _, _ => List.pairwise_singleton _ _
  | y :: L, hr, hn => by
    have h1 := List.pairwise_cons.1 hr
    rw [insH]
    split
    · rename_i hy
      refine List.pairwise_cons.2 ⟨fun z hz => ?_, rise_insH h1.2 (fun hc => hn (by simp [hc]))⟩
      rcases mem_insH.1 hz with rfl | hz
      · exact hy
      · exact h1.1 z hz
    · rename_i hy
      have hhy : ltH h y = true := by
        rcases ltH_tri h y with a | a | a
        · exact a
        · exact (hn (by simp [a])).elim
        · exact (hy a).elim
      refine List.pairwise_cons.2 ⟨fun z hz => ?_, hr⟩
      rcases List.mem_cons.1 hz with rfl | hz
      · exact hhy
      · exact ltH_trans hhy (h1.1 z hz)
/-- Put in behind the i first ones, which are all ahead of it, the next one being not. -/
theorem insH_at {h : Hol} : ∀ {L : List Hol} {i : Nat}, (∀ j x, j < i → L[j]? = some x → ltH x h = true) → (∀ x, L[i]? = some x → ltH x h = false) → insH h L = L.take i ++ (h :: L.drop i)
  | [], i, _, _ => by simp [insH]
  | y :: L, 0, _, h2 => by
    rw [insH, if_neg (by rw [h2 y rfl]; simp)]
    simp
  | y :: L, i + 1, h1, h2 => by
    rw [insH, if_pos (h1 0 y (by omega) rfl), insH_at (L := L) (i := i) (fun j x hj hx => h1 (j + 1) x (by omega) (by simpa using hx)) (fun x hx => h2 x (by simpa using hx))]
    simp

def outH (h : Hol) (L : List Hol) : List Hol := L.filter (fun x => !(x == h))
theorem mem_outH {h x : Hol} {L : List Hol} : x ∈ outH h L ↔ x ∈ L ∧ x ≠ h := by simp [outH]
theorem rise_outH {h : Hol} {L : List Hol} (hr : Rise L) : Rise (outH h L) := List.Pairwise.filter _ hr
theorem outH_not {h : Hol} {L : List Hol} (hn : h ∉ L) : outH h L = L := List.filter_eq_self.2 (fun a ha => by simp; rintro rfl; exact hn ha)
theorem length_outH {h : Hol} : ∀ {L : List Hol}, L.Nodup → h ∈ L → (outH h L).length + 1 = L.length
  | [], _, hm => by simp at hm
  | y :: L, hd, hm => by
    have h1 := List.nodup_cons.1 hd
    by_cases hy : y = h
    · subst hy
      have : outH y (y :: L) = outH y L := by simp [outH]
      rw [this, outH_not h1.1]
      rfl
    · have : outH h (y :: L) = y :: outH h L := by simp [outH, hy]
      rw [this]
      have := length_outH h1.2 (h := h) (by rcases List.mem_cons.1 hm with e | e; exact (hy e.symm).elim; exact e)
      simp [this]
theorem length_outH_le (h : Hol) (L : List Hol) : (outH h L).length ≤ L.length := List.length_filter_le _ _
theorem outH_ins {h : Hol} {L : List Hol} (hr : Rise L) (hn : h ∉ L) : outH h (insH h L) = L := by
  refine rise_unique (rise_outH (rise_insH hr hn)) hr fun x => ?_
  rw [mem_outH, mem_insH]
  constructor
  · rintro ⟨a | a, b⟩
    · exact (b a).elim
    · exact a
  · intro a
    exact ⟨.inr a, by rintro rfl; exact hn a⟩

/-- What a sort leaves of unlike pairs is their rising list. -/
theorem sorted_rise {d d' : Array Hol} {L : List Hol} (hL : Rise L) (hd : d.toList.Nodup) (hm : ∀ x, x ∈ d.toList ↔ x ∈ L) (hp : Sort.PermIn 0 d.size d d') (hs : Sort.SortedIn ltH 0 d.size d') : d'.toList = L := by
  obtain ⟨h1, _, h3⟩ := hp
  rw [Array.extract_eq_self_of_le (by omega), Array.extract_eq_self_of_le (by omega)] at h3
  have hnd : d'.toList.Nodup := h3.nodup_iff.2 hd
  refine rise_unique ?_ hL fun x => (h3.mem_iff).trans (hm x)
  refine List.pairwise_iff_getElem.2 fun i j hi hj hij => ?_
  have hi' : i < d'.size := by simpa using hi
  have hj' : j < d'.size := by simpa using hj
  have h4 := hs i j (Nat.zero_le _) hij (by omega)
  rw [getElem!_pos d' i hi', getElem!_pos d' j hj'] at h4
  have h5 := List.pairwise_iff_getElem.1 hnd i j hi hj hij
  simp only [Array.getElem_toList] at h5 ⊢
  rcases ltH_tri d'[i] d'[j] with a | a | a
  · exact a
  · exact (h5 a).elim
  · rw [a] at h4; cases h4
end Go.Proofs.YtgnccpmkdgfjeaaGreat

namespace Go.Proofs.YtgnccpmkdgfjeaaGreat
set_option linter.unusedVariables false

/-- How many may run, and wait, and who does. -/
structure BU where
  most : Nat
  que : Nat
  run : List Int
  wait : List Int
namespace BU
def runs (S : BU) (x : Int) : BU := ⟨S.most, S.que, S.run ++ [x], S.wait⟩
def waits (S : BU) (x : Int) : BU := ⟨S.most, S.que, S.run, S.wait ++ [x]⟩
def turn (S : BU) (y : Int) (l : List Int) : BU := ⟨S.most, S.que, S.run ++ [y], l⟩
def drop (S : BU) (x : Int) : BU := ⟨S.most, S.que, S.run, S.wait.erase x⟩
def free (S : BU) (x : Int) : BU := ⟨S.most, S.que, S.run.erase x, S.wait⟩
/-- What Pick makes of it; whom it tells; whether it told one. -/
def pick (S : BU) : BU := match S.wait with
  | [] => S
  | y :: l => if S.run.length < S.most then S.turn y l else S
def first (S : BU) : Int := match S.wait with
  | [] => 0
  | y :: _ => if S.run.length < S.most then y else 0
def picked (S : BU) : Bool := match S.wait with
  | [] => false
  | _ :: _ => decide (S.run.length < S.most)
/-- What Admit makes of it; what it tells; and who runs by that. -/
def adm (S : BU) (x : Int) : BU :=
  if x ∈ S.run ∨ x ∈ S.wait then S
  else if S.run.length < S.most ∧ S.wait = [] then S.runs x
  else if S.wait.length < S.que then S.waits x
  else match S.wait with
    | [] => S
    | y :: l => if S.run.length < S.most then (S.turn y l).waits x else S
def tells (S : BU) (x : Int) : Int :=
  if x ∈ S.run ∨ x ∈ S.wait then 3
  else if S.run.length < S.most ∧ S.wait = [] then 1
  else if S.wait.length < S.que then 2
  else match S.wait with
    | [] => 3
    | _ :: _ => if S.run.length < S.most then 2 else 3
def lets (S : BU) (x : Int) : List Int :=
  if x ∈ S.run ∨ x ∈ S.wait then []
  else if S.run.length < S.most ∧ S.wait = [] then []
  else if S.wait.length < S.que then []
  else match S.wait with
    | [] => []
    | y :: _ => if S.run.length < S.most then [y] else []
/-- What may be. -/
structure Ok (S : BU) : Prop where
  nr : S.run.Nodup
  nw : S.wait.Nodup
  apart : ∀ x ∈ S.wait, x ∉ S.run
  lr : S.run.length ≤ S.most
  lw : S.wait.length ≤ S.que
  m8 : S.most ≤ 8
  q8 : S.que ≤ 8
  wr : ∀ z ∈ S.run, wf64 z
  ww : ∀ z ∈ S.wait, wf64 z
theorem nodup_snoc {L : List Int} {x : Int} (h : L.Nodup) (hn : x ∉ L) : (L ++ [x]).Nodup := by
  rw [List.nodup_append]
  exact ⟨h, by simp, by intro a ha b hb; simp at hb; subst hb; rintro rfl; exact hn ha⟩
theorem mem_snoc {L : List Int} {x z : Int} (h : z ∈ L ++ [x]) : z ∈ L ∨ z = x := by simpa using h
section
variable {S : BU} {x y : Int} {l : List Int}
theorem Ok.runs (h : S.Ok) (hx : wf64 x) (hr : x ∉ S.run) (hw : x ∉ S.wait) (hl : S.run.length < S.most) : (S.runs x).Ok :=
  ⟨nodup_snoc h.nr hr, h.nw, fun z hz hc => by rcases mem_snoc hc with hc | rfl; exact h.apart z hz hc; exact hw hz, by show (S.run ++ [x]).length ≤ S.most; rw [List.length_append]; simp; omega, h.lw, h.m8, h.q8, fun z hz => by rcases mem_snoc hz with hz | rfl; exact h.wr z hz; exact hx, h.ww⟩
theorem Ok.waits (h : S.Ok) (hx : wf64 x) (hr : x ∉ S.run) (hw : x ∉ S.wait) (hl : S.wait.length < S.que) : (S.waits x).Ok :=
  ⟨h.nr, nodup_snoc h.nw hw, fun z hz hc => by rcases mem_snoc hz with hz | rfl; exact h.apart z hz hc; exact hr hc, h.lr, by show (S.wait ++ [x]).length ≤ S.que; rw [List.length_append]; simp; omega, h.m8, h.q8, h.wr, fun z hz => by rcases mem_snoc hz with hz | rfl; exact h.ww z hz; exact hx⟩
theorem Ok.turn (h : S.Ok) (he : S.wait = y :: l) (hl : S.run.length < S.most) : (S.turn y l).Ok := by
  have hnw := h.nw
  have hap := h.apart
  have hww := h.ww
  have hlw := h.lw
  rw [he] at hnw hap hww hlw
  have h1 := List.nodup_cons.1 hnw
  exact ⟨nodup_snoc h.nr (hap y (by simp)), h1.2, fun z hz hc => by rcases mem_snoc hc with hc | rfl; exact hap z (by simp [show z ∈ l from hz]) hc; exact h1.1 hz, by show (S.run ++ [y]).length ≤ S.most; rw [List.length_append]; simp; omega, by show l.length ≤ S.que; simp at hlw; omega, h.m8, h.q8, fun z hz => by rcases mem_snoc hz with hz | rfl; exact h.wr z hz; exact hww _ (by simp), fun z hz => hww z (by simp [show z ∈ l from hz])⟩
theorem Ok.drop (h : S.Ok) (x : Int) : (S.drop x).Ok :=
  ⟨h.nr, h.nw.erase x, fun z hz => h.apart z (List.mem_of_mem_erase hz), h.lr, Nat.le_trans List.length_erase_le h.lw, h.m8, h.q8, h.wr, fun z hz => h.ww z (List.mem_of_mem_erase hz)⟩
theorem Ok.free (h : S.Ok) (x : Int) : (S.free x).Ok :=
  ⟨h.nr.erase x, h.nw, fun z hz hc => h.apart z hz (List.mem_of_mem_erase hc), Nat.le_trans List.length_erase_le h.lr, h.lw, h.m8, h.q8, fun z hz => h.wr z (List.mem_of_mem_erase hz), h.ww⟩
end
end BU

/-- The holders of those that run, rising. -/
def hol : List Int → List Hol
  | [] => []
  | x :: L => insH (x, 0) (hol L)
theorem mem_hol {h : Hol} : ∀ {L : List Int}, h ∈ hol L ↔ h.1 ∈ L ∧ h.2 = 0
  | [] => by simp [hol]
  | x :: L => by
    rw [hol, mem_insH, mem_hol]
    constructor
    · rintro (rfl | ⟨a, b⟩)
      · simp
      · simp [a, b]
    · rintro ⟨a, b⟩
      rcases List.mem_cons.1 a with a | a
      · exact .inl (Prod.ext a b)
      · exact .inr ⟨a, b⟩
theorem mem_hol0 {x : Int} {L : List Int} : (x, (0 : Int)) ∈ hol L ↔ x ∈ L := by simp [mem_hol]
theorem length_hol : ∀ L : List Int, (hol L).length = L.length
  | [] => rfl
  | x :: L => by rw [hol, length_insH, length_hol L]; rfl
theorem rise_hol : ∀ {L : List Int}, L.Nodup → Rise (hol L)
  | [], _ => rise_nil
  | x :: L, h => by
    have h1 := List.nodup_cons.1 h
    exact rise_insH (rise_hol h1.2) (by rw [mem_hol0]; exact h1.1)
theorem hol_snoc {L : List Int} {x : Int} (h : L.Nodup) (hx : x ∉ L) : insH (x, 0) (hol L) = hol (L ++ [x]) := by
  refine rise_unique (rise_insH (rise_hol h) (by rw [mem_hol0]; exact hx)) (rise_hol (BU.nodup_snoc h hx)) fun z => ?_
  rw [mem_insH, mem_hol, mem_hol, List.mem_append, List.mem_singleton]
  constructor
  · rintro (rfl | ⟨a, b⟩)
    · simp
    · exact ⟨.inl a, b⟩
  · rintro ⟨a | a, b⟩
    · exact .inr ⟨a, b⟩
    · exact .inl (Prod.ext a b)
theorem hol_erase {L : List Int} {x : Int} (h : L.Nodup) : outH (x, 0) (hol L) = hol (L.erase x) := by
  refine rise_unique (rise_outH (rise_hol h)) (rise_hol (h.erase x)) fun z => ?_
  rw [mem_outH, mem_hol, mem_hol, h.mem_erase_iff]
  constructor
  · rintro ⟨⟨a, b⟩, c⟩
    exact ⟨⟨fun e => c (Prod.ext e b), a⟩, b⟩
  · rintro ⟨⟨a, b⟩, c⟩
    exact ⟨⟨b, c⟩, fun e => a (congrArg Prod.fst e)⟩
end Go.Proofs.YtgnccpmkdgfjeaaGreat

namespace Go.Proofs.YtgnccpmkdgfjeaaGreat
open Go.ChangeShapes Go.WideShapes Go.ChangeAt Go.RowKit

def addS (a b : Int) : Int := if a + b ≤ 18446744073709551615 then a + b else 18446744073709551615
theorem addS_bd {a b : Int} (ha : 0 ≤ a) (hb : 0 ≤ b) : 0 ≤ addS a b ∧ addS a b ≤ 18446744073709551615 := by unfold addS; split <;> omega

set_option maxHeartbeats 400000 in
theorem add_any (a b : Int) (w : World) (ha : 0 ≤ a) (hb : 0 ≤ b) (ha' : a ≤ 18446744073709551615) (hb' : b ≤ 18446744073709551615) :
    Calls Tryz.prog 112 #[.int .u64 a, .int .u64 b] w fun e w' => e = .returned (.int .u64 (addS a b)) ∧ w = w' := by
  go_enter Tryz.func112, Tryz.ntmps112
  go_wp2
  all_goals go_ret
  · exact ⟨ret_int (by unfold addS; rw [if_neg (by omega)]), rfl⟩
  · exact ⟨ret_int (by unfold addS; rw [if_pos (by omega)]), rfl⟩

set_option maxHeartbeats 400000 in
theorem radd_any (a b : Int) (w : World) (ha : 0 ≤ a) (hb : 0 ≤ b) (ha' : a ≤ 18446744073709551615) (hb' : b ≤ 18446744073709551615) :
    Calls Tryz.prog 14 #[.int .u64 a, .int .u64 b] w fun e w' => e = .returned (.int .u64 (addS a b)) ∧ w = w' := by
  go_enter Tryz.func14, Tryz.ntmps14
  go_wp2
  all_goals go_ret
  · exact ⟨ret_int (by unfold addS; rw [if_neg (by omega)]), rfl⟩
  · exact ⟨ret_int (by unfold addS; rw [if_pos (by omega)]), rfl⟩
end Go.Proofs.YtgnccpmkdgfjeaaGreat

namespace Go.Proofs.YtgnccpmkdgfjeaaGreat
set_option linter.unusedVariables false
open Go.ChangeShapes Go.WideShapes Go.ChangeAt Go.RowKit

/-- A configuration; also its sixteen numbers in turn. -/
structure Cnf where
  mode : Int
  pool : Int
  queue : Int
  sem : Int
  fbMax : Int
  chain : Int
  timeout : Int
  fbTimeout : Int
  volume : Int
  percent : Int
  sleep : Int
  buckets : Int
  width : Int
  window : Int
  batch : Int
  force : Int
deriving DecidableEq
namespace Cnf
/-- The numbers in turn. -/
def L (c : Cnf) : List Int := [c.mode, c.pool, c.queue, c.sem, c.fbMax, c.chain, c.timeout, c.fbTimeout, c.volume, c.percent, c.sleep, c.buckets, c.width, c.window, c.batch, c.force]
/-- As a struct's cells; as an array's of int64. -/
def vals (c : Cnf) : List Value := [.int .i64 c.mode, .int .i64 c.pool, .int .i64 c.queue, .int .i64 c.sem, .int .i64 c.fbMax, .int .i64 c.chain, .int .u64 c.timeout, .int .u64 c.fbTimeout, .int .i64 c.volume, .int .i64 c.percent, .int .u64 c.sleep, .int .i64 c.buckets, .int .u64 c.width, .int .u64 c.window, .int .i64 c.batch, .int .i64 c.force]
def nums (c : Cnf) : List Value := [.int .i64 c.mode, .int .i64 c.pool, .int .i64 c.queue, .int .i64 c.sem, .int .i64 c.fbMax, .int .i64 c.chain, .int .i64 c.timeout, .int .i64 c.fbTimeout, .int .i64 c.volume, .int .i64 c.percent, .int .i64 c.sleep, .int .i64 c.buckets, .int .i64 c.width, .int .i64 c.window, .int .i64 c.batch, .int .i64 c.force]
def zero : Cnf := ⟨0, 0, 0, 0, 0, 0, 0, 0, 0, 0, 0, 0, 0, 0, 0, 0⟩
def put (c : Cnf) : Cnf := ⟨c.mode, c.pool, c.queue, c.sem, c.fbMax, c.chain, wrap64 c.timeout, wrap64 c.fbTimeout, c.volume, c.percent, wrap64 c.sleep, c.buckets, wrap64 c.width, wrap64 c.window, c.batch, c.force⟩
def take (c : Cnf) : Cnf := ⟨c.mode, c.pool, c.queue, c.sem, c.fbMax, c.chain, IntKind.u64.wrap c.timeout, IntKind.u64.wrap c.fbTimeout, c.volume, c.percent, IntKind.u64.wrap c.sleep, c.buckets, IntKind.u64.wrap c.width, IntKind.u64.wrap c.window, c.batch, c.force⟩
/-- Numbers that the fields' types hold; that sixteen int64 hold. -/
structure Fits (c : Cnf) : Prop where
  mode : -9223372036854775808 ≤ c.mode ∧ c.mode ≤ 9223372036854775807
  pool : -9223372036854775808 ≤ c.pool ∧ c.pool ≤ 9223372036854775807
  queue : -9223372036854775808 ≤ c.queue ∧ c.queue ≤ 9223372036854775807
  sem : -9223372036854775808 ≤ c.sem ∧ c.sem ≤ 9223372036854775807
  fbMax : -9223372036854775808 ≤ c.fbMax ∧ c.fbMax ≤ 9223372036854775807
  chain : -9223372036854775808 ≤ c.chain ∧ c.chain ≤ 9223372036854775807
  timeout : 0 ≤ c.timeout ∧ c.timeout ≤ 18446744073709551615
  fbTimeout : 0 ≤ c.fbTimeout ∧ c.fbTimeout ≤ 18446744073709551615
  volume : -9223372036854775808 ≤ c.volume ∧ c.volume ≤ 9223372036854775807
  percent : -9223372036854775808 ≤ c.percent ∧ c.percent ≤ 9223372036854775807
  sleep : 0 ≤ c.sleep ∧ c.sleep ≤ 18446744073709551615
  buckets : -9223372036854775808 ≤ c.buckets ∧ c.buckets ≤ 9223372036854775807
  width : 0 ≤ c.width ∧ c.width ≤ 18446744073709551615
  window : 0 ≤ c.window ∧ c.window ≤ 18446744073709551615
  batch : -9223372036854775808 ≤ c.batch ∧ c.batch ≤ 9223372036854775807
  force : -9223372036854775808 ≤ c.force ∧ c.force ≤ 9223372036854775807
structure Fit64 (c : Cnf) : Prop where
  mode : -9223372036854775808 ≤ c.mode ∧ c.mode ≤ 9223372036854775807
  pool : -9223372036854775808 ≤ c.pool ∧ c.pool ≤ 9223372036854775807
  queue : -9223372036854775808 ≤ c.queue ∧ c.queue ≤ 9223372036854775807
  sem : -9223372036854775808 ≤ c.sem ∧ c.sem ≤ 9223372036854775807
  fbMax : -9223372036854775808 ≤ c.fbMax ∧ c.fbMax ≤ 9223372036854775807
  chain : -9223372036854775808 ≤ c.chain ∧ c.chain ≤ 9223372036854775807
  timeout : -9223372036854775808 ≤ c.timeout ∧ c.timeout ≤ 9223372036854775807
  fbTimeout : -9223372036854775808 ≤ c.fbTimeout ∧ c.fbTimeout ≤ 9223372036854775807
  volume : -9223372036854775808 ≤ c.volume ∧ c.volume ≤ 9223372036854775807
  percent : -9223372036854775808 ≤ c.percent ∧ c.percent ≤ 9223372036854775807
  sleep : -9223372036854775808 ≤ c.sleep ∧ c.sleep ≤ 9223372036854775807
  buckets : -9223372036854775808 ≤ c.buckets ∧ c.buckets ≤ 9223372036854775807
  width : -9223372036854775808 ≤ c.width ∧ c.width ≤ 9223372036854775807
  window : -9223372036854775808 ≤ c.window ∧ c.window ≤ 9223372036854775807
  batch : -9223372036854775808 ≤ c.batch ∧ c.batch ≤ 9223372036854775807
  force : -9223372036854775808 ≤ c.force ∧ c.force ≤ 9223372036854775807
theorem len_L (c : Cnf) : c.L.length = 16 := rfl
theorem len_vals (c : Cnf) : c.vals.length = 16 := rfl
theorem len_nums (c : Cnf) : c.nums.length = 16 := rfl
theorem nums_L (c : Cnf) : c.nums = c.L.map (Value.int .i64) := rfl
theorem ones_vals (c : Cnf) : Ones c.vals := by intro v hv; simp only [vals, List.mem_cons, List.not_mem_nil, or_false] at hv; rcases hv with rfl | rfl | rfl | rfl | rfl | rfl | rfl | rfl | rfl | rfl | rfl | rfl | rfl | rfl | rfl | rfl <;> rfl
theorem ones_nums (c : Cnf) : Ones c.nums := by intro v hv; simp only [nums, List.mem_cons, List.not_mem_nil, or_false] at hv; rcases hv with rfl | rfl | rfl | rfl | rfl | rfl | rfl | rfl | rfl | rfl | rfl | rfl | rfl | rfl | rfl | rfl <;> rfl
theorem vals_inj {c d : Cnf} (h : c.vals = d.vals) : c = d := by
  cases c; cases d
  simpa [vals] using h
theorem nums_inj {c d : Cnf} (h : c.nums = d.nums) : c = d := by
  cases c; cases d
  simpa [nums] using h
theorem wrap_ui {x : Int} (h : -9223372036854775808 ≤ x ∧ x ≤ 9223372036854775807) : wrap64 (IntKind.u64.wrap x) = x := by unfold wrap64; rw [IntKind.wrap_u64]; omega
theorem wrap_iu {x : Int} (h : 0 ≤ x ∧ x ≤ 18446744073709551615) : IntKind.u64.wrap (wrap64 x) = x := by unfold wrap64; rw [IntKind.wrap_u64]; omega
theorem wrapI_bd (x : Int) : -9223372036854775808 ≤ wrap64 x ∧ wrap64 x ≤ 9223372036854775807 := by unfold wrap64; omega
theorem wrapU_bd (x : Int) : 0 ≤ IntKind.u64.wrap x ∧ IntKind.u64.wrap x ≤ 18446744073709551615 := by rw [IntKind.wrap_u64]; omega
theorem put_take {c : Cnf} (h : c.Fit64) : c.take.put = c := by
  cases c
  simp only [take, put, wrap_ui h.timeout, wrap_ui h.fbTimeout, wrap_ui h.sleep, wrap_ui h.width, wrap_ui h.window]
theorem take_put {c : Cnf} (h : c.Fits) : c.put.take = c := by
  cases c
  simp only [take, put, wrap_iu h.timeout, wrap_iu h.fbTimeout, wrap_iu h.sleep, wrap_iu h.width, wrap_iu h.window]
theorem put_fits {c : Cnf} (h : c.Fits) : c.put.Fit64 := ⟨h.mode, h.pool, h.queue, h.sem, h.fbMax, h.chain, wrapI_bd _, wrapI_bd _, h.volume, h.percent, wrapI_bd _, h.buckets, wrapI_bd _, wrapI_bd _, h.batch, h.force⟩
theorem take_fits {c : Cnf} (h : c.Fit64) : c.take.Fits := ⟨h.mode, h.pool, h.queue, h.sem, h.fbMax, h.chain, wrapU_bd _, wrapU_bd _, h.volume, h.percent, wrapU_bd _, h.buckets, wrapU_bd _, wrapU_bd _, h.batch, h.force⟩
theorem cells_vals {w : World} {g : Nat} {ty : TypeId} {c : Cnf} (h : w.heap[g]? = some (vobj ty c.vals)) : w.cell? ⟨g, 0, none⟩ = some (.int .i64 c.mode) ∧ w.cell? ⟨g, 1, none⟩ = some (.int .i64 c.pool) ∧ w.cell? ⟨g, 2, none⟩ = some (.int .i64 c.queue) ∧ w.cell? ⟨g, 3, none⟩ = some (.int .i64 c.sem) ∧ w.cell? ⟨g, 4, none⟩ = some (.int .i64 c.fbMax) ∧ w.cell? ⟨g, 5, none⟩ = some (.int .i64 c.chain) ∧ w.cell? ⟨g, 6, none⟩ = some (.int .u64 c.timeout) ∧ w.cell? ⟨g, 7, none⟩ = some (.int .u64 c.fbTimeout) ∧ w.cell? ⟨g, 8, none⟩ = some (.int .i64 c.volume) ∧ w.cell? ⟨g, 9, none⟩ = some (.int .i64 c.percent) ∧ w.cell? ⟨g, 10, none⟩ = some (.int .u64 c.sleep) ∧ w.cell? ⟨g, 11, none⟩ = some (.int .i64 c.buckets) ∧ w.cell? ⟨g, 12, none⟩ = some (.int .u64 c.width) ∧ w.cell? ⟨g, 13, none⟩ = some (.int .u64 c.window) ∧ w.cell? ⟨g, 14, none⟩ = some (.int .i64 c.batch) ∧ w.cell? ⟨g, 15, none⟩ = some (.int .i64 c.force) :=
  ⟨vobj_cell h rfl, vobj_cell h rfl, vobj_cell h rfl, vobj_cell h rfl, vobj_cell h rfl, vobj_cell h rfl, vobj_cell h rfl, vobj_cell h rfl, vobj_cell h rfl, vobj_cell h rfl, vobj_cell h rfl, vobj_cell h rfl, vobj_cell h rfl, vobj_cell h rfl, vobj_cell h rfl, vobj_cell h rfl⟩
theorem cells_nums {w : World} {g : Nat} {ty : TypeId} {c : Cnf} (h : w.heap[g]? = some (vobj ty c.nums)) : w.cell? ⟨g, 0, none⟩ = some (.int .i64 c.mode) ∧ w.cell? ⟨g, 1, none⟩ = some (.int .i64 c.pool) ∧ w.cell? ⟨g, 2, none⟩ = some (.int .i64 c.queue) ∧ w.cell? ⟨g, 3, none⟩ = some (.int .i64 c.sem) ∧ w.cell? ⟨g, 4, none⟩ = some (.int .i64 c.fbMax) ∧ w.cell? ⟨g, 5, none⟩ = some (.int .i64 c.chain) ∧ w.cell? ⟨g, 6, none⟩ = some (.int .i64 c.timeout) ∧ w.cell? ⟨g, 7, none⟩ = some (.int .i64 c.fbTimeout) ∧ w.cell? ⟨g, 8, none⟩ = some (.int .i64 c.volume) ∧ w.cell? ⟨g, 9, none⟩ = some (.int .i64 c.percent) ∧ w.cell? ⟨g, 10, none⟩ = some (.int .i64 c.sleep) ∧ w.cell? ⟨g, 11, none⟩ = some (.int .i64 c.buckets) ∧ w.cell? ⟨g, 12, none⟩ = some (.int .i64 c.width) ∧ w.cell? ⟨g, 13, none⟩ = some (.int .i64 c.window) ∧ w.cell? ⟨g, 14, none⟩ = some (.int .i64 c.batch) ∧ w.cell? ⟨g, 15, none⟩ = some (.int .i64 c.force) :=
  ⟨vobj_cell h rfl, vobj_cell h rfl, vobj_cell h rfl, vobj_cell h rfl, vobj_cell h rfl, vobj_cell h rfl, vobj_cell h rfl, vobj_cell h rfl, vobj_cell h rfl, vobj_cell h rfl, vobj_cell h rfl, vobj_cell h rfl, vobj_cell h rfl, vobj_cell h rfl, vobj_cell h rfl, vobj_cell h rfl⟩
/-- What the numbers may be: the least and the greatest one. -/
def spans (c : Cnf) : List (Int × Int) := [(1, 2), (if c.mode = 1 then (1, 8) else (0, 0)), (if c.mode = 1 then (0, 8) else (0, 0)), (if c.mode = 2 then (1, 8) else (0, 0)), (0, 4), (0, 3), (1, 1099511627776), (1, 1099511627776), (1, 1000), (0, 100), (0, 1099511627776), (1, 8), (1, 1099511627776), (0, 1099511627776), (if c.window = 0 then (0, 0) else (1, 4)), (0, 2)]
def goods (c : Cnf) : List Bool := List.zipWith (fun z p => decide (p.1 ≤ z ∧ z ≤ p.2)) c.L c.spans
theorem len_spans (c : Cnf) : c.spans.length = 16 := rfl
theorem len_goods (c : Cnf) : c.goods.length = 16 := rfl
/-- The document's words on each field. -/
def oks (c : Cnf) : List Bool := [decide (1 ≤ c.mode ∧ c.mode ≤ 2), (if c.mode = 1 then decide (1 ≤ c.pool ∧ c.pool ≤ 8) else decide (c.pool = 0)), (if c.mode = 1 then decide (0 ≤ c.queue ∧ c.queue ≤ 8) else decide (c.queue = 0)), (if c.mode = 2 then decide (1 ≤ c.sem ∧ c.sem ≤ 8) else decide (c.sem = 0)), decide (0 ≤ c.fbMax ∧ c.fbMax ≤ 4), decide (0 ≤ c.chain ∧ c.chain ≤ 3), decide (1 ≤ c.timeout ∧ c.timeout ≤ 1099511627776), decide (1 ≤ c.fbTimeout ∧ c.fbTimeout ≤ 1099511627776), decide (1 ≤ c.volume ∧ c.volume ≤ 1000), decide (0 ≤ c.percent ∧ c.percent ≤ 100), decide (0 ≤ c.sleep ∧ c.sleep ≤ 1099511627776), decide (1 ≤ c.buckets ∧ c.buckets ≤ 8), decide (1 ≤ c.width ∧ c.width ≤ 1099511627776), decide (0 ≤ c.window ∧ c.window ≤ 1099511627776), (if 0 < c.window then decide (1 ≤ c.batch ∧ c.batch ≤ 4) else decide (c.batch = 0)), decide (0 ≤ c.force ∧ c.force ≤ 2)]
theorem len_oks (c : Cnf) : c.oks.length = 16 := rfl
theorem ok_time {x lo : Int} (h : 0 ≤ x ∧ x ≤ 18446744073709551615) (hl : 0 ≤ lo) : decide (lo ≤ wrap64 x ∧ wrap64 x ≤ 1099511627776) = decide (lo ≤ x ∧ x ≤ 1099511627776) := by
  rw [decide_eq_decide]; unfold wrap64; omega
theorem ok_if {p : Prop} [Decidable p] {x a b : Int} : decide ((if p then (a, b) else ((0 : Int), (0 : Int))).1 ≤ x ∧ x ≤ (if p then (a, b) else ((0 : Int), (0 : Int))).2) = if p then decide (a ≤ x ∧ x ≤ b) else decide (x = 0) := by
  split
  · rfl
  · rw [decide_eq_decide]; constructor <;> intro h <;> simp at * <;> omega
theorem ok_batch {x y : Int} (h : 0 ≤ x ∧ x ≤ 18446744073709551615) : decide ((if wrap64 x = 0 then ((0 : Int), (0 : Int)) else (1, 4)).1 ≤ y ∧ y ≤ (if wrap64 x = 0 then ((0 : Int), (0 : Int)) else (1, 4)).2) = if 0 < x then decide (1 ≤ y ∧ y ≤ 4) else decide (y = 0) := by
  have : wrap64 x = 0 ↔ ¬ 0 < x := by unfold wrap64; omega
  by_cases hx : 0 < x
  · rw [if_neg (by rw [this]; omega), if_pos hx]
  · rw [if_pos (this.2 hx), if_neg hx, decide_eq_decide]; constructor <;> intro h <;> simp at * <;> omega
theorem cons2 {a b : Bool} {l m : List Bool} (h : a = b) (k : l = m) : a :: l = b :: m := by rw [h, k]
theorem goods_put {c : Cnf} (h : c.Fits) : c.put.goods = c.oks := by
  show List.zipWith _ [_, _, _, _, _, _, _, _, _, _, _, _, _, _, _, _] [_, _, _, _, _, _, _, _, _, _, _, _, _, _, _, _] = [_, _, _, _, _, _, _, _, _, _, _, _, _, _, _, _]
  exact cons2 rfl (cons2 ok_if (cons2 ok_if (cons2 ok_if (cons2 rfl (cons2 rfl (cons2 (ok_time h.timeout (by omega)) (cons2 (ok_time h.fbTimeout (by omega)) (cons2 rfl (cons2 rfl (cons2 (ok_time h.sleep (by omega)) (cons2 rfl (cons2 (ok_time h.width (by omega)) (cons2 (ok_time h.window (by omega)) (cons2 (ok_batch h.window) (cons2 rfl (rfl))))))))))))))))
/-- The number of the first that is false; 0, if none is. -/
def firstF : List Bool → Nat
  | [] => 0
  | false :: _ => 1
  | true :: l => if firstF l = 0 then 0 else firstF l + 1
theorem firstF_at : ∀ {l : List Bool} {k : Nat}, (∀ j, j < k → l[j]? = some true) → l[k]? = some false → firstF l = k + 1
  | [], k, _, h => by simp at h
  | b :: l, 0, _, h => by simp at h; subst h; rfl
  | b :: l, k + 1, ha, h => by
    have h0 := ha 0 (by omega)
    simp at h0
    subst h0
    have := firstF_at (l := l) (k := k) (fun j hj => by have := ha (j + 1) (by omega); simpa using this) (by simpa using h)
    rw [firstF, if_neg (by omega), this]
theorem firstF_all : ∀ {l : List Bool}, (∀ j, j < l.length → l[j]? = some true) → firstF l = 0
  | [], _ => rfl
  | b :: l, ha => by
    have h0 := ha 0 (by simp)
    simp at h0
    subst h0
    have := firstF_all (l := l) (fun j hj => by have := ha (j + 1) (by simpa using hj); simpa using this)
    rw [firstF, if_pos this]
theorem firstF_le : ∀ l : List Bool, firstF l ≤ l.length
  | [] => Nat.le_refl _
  | false :: l => by simp [firstF]
  | true :: l => by have := firstF_le l; rw [firstF]; split <;> simp; omega
theorem firstF_zero : ∀ {l : List Bool}, firstF l = 0 → ∀ b ∈ l, b = true
  | [], _ => by simp
  | false :: l, h => by simp [firstF] at h
  | true :: l, h => by
    rw [firstF] at h
    split at h
    · rename_i h0
      intro b hb
      rcases List.mem_cons.1 hb with rfl | hb
      · rfl
      · exact firstF_zero h0 b hb
    · omega
/-- The number of the first number that may not be; of the first field. -/
def wrong (f : Cnf) : Nat := firstF f.goods
def bad (c : Cnf) : Nat := firstF c.oks
theorem wrong_put {c : Cnf} (h : c.Fits) : c.put.wrong = c.bad := by unfold wrong bad; rw [goods_put h]
theorem wrong_take {f : Cnf} (h : f.Fit64) : f.wrong = f.take.bad := by rw [← wrong_put (take_fits h), put_take h]
theorem bad_le (c : Cnf) : c.bad ≤ 16 := firstF_le _
theorem wrong_le (c : Cnf) : c.wrong ≤ 16 := firstF_le _
/-- The error beside it. -/
def errOf (n : Nat) : Int := if n = 0 then 0 else 1
/-- What a configuration that may be is. -/
structure May (c : Cnf) : Prop where
  mode : 1 ≤ c.mode ∧ c.mode ≤ 2
  pool : if c.mode = 1 then 1 ≤ c.pool ∧ c.pool ≤ 8 else c.pool = 0
  queue : if c.mode = 1 then 0 ≤ c.queue ∧ c.queue ≤ 8 else c.queue = 0
  sem : if c.mode = 2 then 1 ≤ c.sem ∧ c.sem ≤ 8 else c.sem = 0
  fbMax : 0 ≤ c.fbMax ∧ c.fbMax ≤ 4
  chain : 0 ≤ c.chain ∧ c.chain ≤ 3
  timeout : 1 ≤ c.timeout ∧ c.timeout ≤ 1099511627776
  fbTimeout : 1 ≤ c.fbTimeout ∧ c.fbTimeout ≤ 1099511627776
  volume : 1 ≤ c.volume ∧ c.volume ≤ 1000
  percent : 0 ≤ c.percent ∧ c.percent ≤ 100
  sleep : 0 ≤ c.sleep ∧ c.sleep ≤ 1099511627776
  buckets : 1 ≤ c.buckets ∧ c.buckets ≤ 8
  width : 1 ≤ c.width ∧ c.width ≤ 1099511627776
  window : 0 ≤ c.window ∧ c.window ≤ 1099511627776
  batch : if 0 < c.window then 1 ≤ c.batch ∧ c.batch ≤ 4 else c.batch = 0
  force : 0 ≤ c.force ∧ c.force ≤ 2
theorem may_of {c : Cnf} (h : c.bad = 0) : c.May := by
  have h := firstF_zero h
  simp only [oks, List.mem_cons, List.not_mem_nil, or_false, forall_eq_or_imp, forall_eq] at h
  obtain ⟨h0, h1, h2, h3, h4, h5, h6, h7, h8, h9, h10, h11, h12, h13, h14, h15⟩ := h
  refine ⟨of_decide_eq_true h0, (by split <;> simp_all), (by split <;> simp_all), (by split <;> simp_all), of_decide_eq_true h4, of_decide_eq_true h5, of_decide_eq_true h6, of_decide_eq_true h7, of_decide_eq_true h8, of_decide_eq_true h9, of_decide_eq_true h10, of_decide_eq_true h11, of_decide_eq_true h12, of_decide_eq_true h13, (by split <;> simp_all), of_decide_eq_true h15⟩
end Cnf
theorem cnf_flat {c0 : Array Value} (h : Flat [.int .i64, .int .i64, .int .i64, .int .i64, .int .i64, .int .i64, .int .u64, .int .u64, .int .i64, .int .i64, .int .u64, .int .i64, .int .u64, .int .u64, .int .i64, .int .i64] c0.toList) : ∃ c : Cnf, c0 = aggV c.vals ∧ c.Fits := by
  obtain ⟨l⟩ := c0
  obtain _ | ⟨v0, l⟩ := l
  · exact h.elim
  obtain ⟨⟨n0, rfl, u0⟩, h⟩ := h
  obtain _ | ⟨v1, l⟩ := l
  · exact h.elim
  obtain ⟨⟨n1, rfl, u1⟩, h⟩ := h
  obtain _ | ⟨v2, l⟩ := l
  · exact h.elim
  obtain ⟨⟨n2, rfl, u2⟩, h⟩ := h
  obtain _ | ⟨v3, l⟩ := l
  · exact h.elim
  obtain ⟨⟨n3, rfl, u3⟩, h⟩ := h
  obtain _ | ⟨v4, l⟩ := l
  · exact h.elim
  obtain ⟨⟨n4, rfl, u4⟩, h⟩ := h
  obtain _ | ⟨v5, l⟩ := l
  · exact h.elim
  obtain ⟨⟨n5, rfl, u5⟩, h⟩ := h
  obtain _ | ⟨v6, l⟩ := l
  · exact h.elim
  obtain ⟨⟨n6, rfl, u6⟩, h⟩ := h
  obtain _ | ⟨v7, l⟩ := l
  · exact h.elim
  obtain ⟨⟨n7, rfl, u7⟩, h⟩ := h
  obtain _ | ⟨v8, l⟩ := l
  · exact h.elim
  obtain ⟨⟨n8, rfl, u8⟩, h⟩ := h
  obtain _ | ⟨v9, l⟩ := l
  · exact h.elim
  obtain ⟨⟨n9, rfl, u9⟩, h⟩ := h
  obtain _ | ⟨v10, l⟩ := l
  · exact h.elim
  obtain ⟨⟨n10, rfl, u10⟩, h⟩ := h
  obtain _ | ⟨v11, l⟩ := l
  · exact h.elim
  obtain ⟨⟨n11, rfl, u11⟩, h⟩ := h
  obtain _ | ⟨v12, l⟩ := l
  · exact h.elim
  obtain ⟨⟨n12, rfl, u12⟩, h⟩ := h
  obtain _ | ⟨v13, l⟩ := l
  · exact h.elim
  obtain ⟨⟨n13, rfl, u13⟩, h⟩ := h
  obtain _ | ⟨v14, l⟩ := l
  · exact h.elim
  obtain ⟨⟨n14, rfl, u14⟩, h⟩ := h
  obtain _ | ⟨v15, l⟩ := l
  · exact h.elim
  obtain ⟨⟨n15, rfl, u15⟩, h⟩ := h
  obtain _ | ⟨v, l⟩ := l
  · exact ⟨⟨n0, n1, n2, n3, n4, n5, n6, n7, n8, n9, n10, n11, n12, n13, n14, n15⟩, rfl, ⟨(by have := bounds_i64 u0; omega), (by have := bounds_i64 u1; omega), (by have := bounds_i64 u2; omega), (by have := bounds_i64 u3; omega), (by have := bounds_i64 u4; omega), (by have := bounds_i64 u5; omega), wf_u64 u6, wf_u64 u7, (by have := bounds_i64 u8; omega), (by have := bounds_i64 u9; omega), wf_u64 u10, (by have := bounds_i64 u11; omega), wf_u64 u12, wf_u64 u13, (by have := bounds_i64 u14; omega), (by have := bounds_i64 u15; omega)⟩⟩
  · exact h.elim
theorem cnf_flat64 {c0 : Array Value} (h : Flat [.int .i64, .int .i64, .int .i64, .int .i64, .int .i64, .int .i64, .int .i64, .int .i64, .int .i64, .int .i64, .int .i64, .int .i64, .int .i64, .int .i64, .int .i64, .int .i64] c0.toList) : ∃ c : Cnf, c0 = aggV c.nums ∧ c.Fit64 := by
  obtain ⟨l⟩ := c0
  obtain _ | ⟨v0, l⟩ := l
  · exact h.elim
  obtain ⟨⟨n0, rfl, u0⟩, h⟩ := h
  obtain _ | ⟨v1, l⟩ := l
  · exact h.elim
  obtain ⟨⟨n1, rfl, u1⟩, h⟩ := h
  obtain _ | ⟨v2, l⟩ := l
  · exact h.elim
  obtain ⟨⟨n2, rfl, u2⟩, h⟩ := h
  obtain _ | ⟨v3, l⟩ := l
  · exact h.elim
  obtain ⟨⟨n3, rfl, u3⟩, h⟩ := h
  obtain _ | ⟨v4, l⟩ := l
  · exact h.elim
  obtain ⟨⟨n4, rfl, u4⟩, h⟩ := h
  obtain _ | ⟨v5, l⟩ := l
  · exact h.elim
  obtain ⟨⟨n5, rfl, u5⟩, h⟩ := h
  obtain _ | ⟨v6, l⟩ := l
  · exact h.elim
  obtain ⟨⟨n6, rfl, u6⟩, h⟩ := h
  obtain _ | ⟨v7, l⟩ := l
  · exact h.elim
  obtain ⟨⟨n7, rfl, u7⟩, h⟩ := h
  obtain _ | ⟨v8, l⟩ := l
  · exact h.elim
  obtain ⟨⟨n8, rfl, u8⟩, h⟩ := h
  obtain _ | ⟨v9, l⟩ := l
  · exact h.elim
  obtain ⟨⟨n9, rfl, u9⟩, h⟩ := h
  obtain _ | ⟨v10, l⟩ := l
  · exact h.elim
  obtain ⟨⟨n10, rfl, u10⟩, h⟩ := h
  obtain _ | ⟨v11, l⟩ := l
  · exact h.elim
  obtain ⟨⟨n11, rfl, u11⟩, h⟩ := h
  obtain _ | ⟨v12, l⟩ := l
  · exact h.elim
  obtain ⟨⟨n12, rfl, u12⟩, h⟩ := h
  obtain _ | ⟨v13, l⟩ := l
  · exact h.elim
  obtain ⟨⟨n13, rfl, u13⟩, h⟩ := h
  obtain _ | ⟨v14, l⟩ := l
  · exact h.elim
  obtain ⟨⟨n14, rfl, u14⟩, h⟩ := h
  obtain _ | ⟨v15, l⟩ := l
  · exact h.elim
  obtain ⟨⟨n15, rfl, u15⟩, h⟩ := h
  obtain _ | ⟨v, l⟩ := l
  · exact ⟨⟨n0, n1, n2, n3, n4, n5, n6, n7, n8, n9, n10, n11, n12, n13, n14, n15⟩, rfl, ⟨(by have := bounds_i64 u0; omega), (by have := bounds_i64 u1; omega), (by have := bounds_i64 u2; omega), (by have := bounds_i64 u3; omega), (by have := bounds_i64 u4; omega), (by have := bounds_i64 u5; omega), (by have := bounds_i64 u6; omega), (by have := bounds_i64 u7; omega), (by have := bounds_i64 u8; omega), (by have := bounds_i64 u9; omega), (by have := bounds_i64 u10; omega), (by have := bounds_i64 u11; omega), (by have := bounds_i64 u12; omega), (by have := bounds_i64 u13; omega), (by have := bounds_i64 u14; omega), (by have := bounds_i64 u15; omega)⟩⟩
  · exact h.elim
theorem flat_vals {c : Cnf} (h : c.Fits) : Flat [.int .i64, .int .i64, .int .i64, .int .i64, .int .i64, .int .i64, .int .u64, .int .u64, .int .i64, .int .i64, .int .u64, .int .i64, .int .u64, .int .u64, .int .i64, .int .i64] (aggV c.vals).toList :=
  ⟨⟨_, rfl, WalkArith.wf_i64 h.mode⟩, ⟨_, rfl, WalkArith.wf_i64 h.pool⟩, ⟨_, rfl, WalkArith.wf_i64 h.queue⟩, ⟨_, rfl, WalkArith.wf_i64 h.sem⟩, ⟨_, rfl, WalkArith.wf_i64 h.fbMax⟩, ⟨_, rfl, WalkArith.wf_i64 h.chain⟩, ⟨_, rfl, WalkArith.wf_u64 ⟨h.timeout.1, by have := h.timeout.2; omega⟩⟩, ⟨_, rfl, WalkArith.wf_u64 ⟨h.fbTimeout.1, by have := h.fbTimeout.2; omega⟩⟩, ⟨_, rfl, WalkArith.wf_i64 h.volume⟩, ⟨_, rfl, WalkArith.wf_i64 h.percent⟩, ⟨_, rfl, WalkArith.wf_u64 ⟨h.sleep.1, by have := h.sleep.2; omega⟩⟩, ⟨_, rfl, WalkArith.wf_i64 h.buckets⟩, ⟨_, rfl, WalkArith.wf_u64 ⟨h.width.1, by have := h.width.2; omega⟩⟩, ⟨_, rfl, WalkArith.wf_u64 ⟨h.window.1, by have := h.window.2; omega⟩⟩, ⟨_, rfl, WalkArith.wf_i64 h.batch⟩, ⟨_, rfl, WalkArith.wf_i64 h.force⟩, trivial⟩
theorem flat_nums {c : Cnf} (h : c.Fit64) : Flat [.int .i64, .int .i64, .int .i64, .int .i64, .int .i64, .int .i64, .int .i64, .int .i64, .int .i64, .int .i64, .int .i64, .int .i64, .int .i64, .int .i64, .int .i64, .int .i64] (aggV c.nums).toList :=
  ⟨⟨_, rfl, WalkArith.wf_i64 h.mode⟩, ⟨_, rfl, WalkArith.wf_i64 h.pool⟩, ⟨_, rfl, WalkArith.wf_i64 h.queue⟩, ⟨_, rfl, WalkArith.wf_i64 h.sem⟩, ⟨_, rfl, WalkArith.wf_i64 h.fbMax⟩, ⟨_, rfl, WalkArith.wf_i64 h.chain⟩, ⟨_, rfl, WalkArith.wf_i64 h.timeout⟩, ⟨_, rfl, WalkArith.wf_i64 h.fbTimeout⟩, ⟨_, rfl, WalkArith.wf_i64 h.volume⟩, ⟨_, rfl, WalkArith.wf_i64 h.percent⟩, ⟨_, rfl, WalkArith.wf_i64 h.sleep⟩, ⟨_, rfl, WalkArith.wf_i64 h.buckets⟩, ⟨_, rfl, WalkArith.wf_i64 h.width⟩, ⟨_, rfl, WalkArith.wf_i64 h.window⟩, ⟨_, rfl, WalkArith.wf_i64 h.batch⟩, ⟨_, rfl, WalkArith.wf_i64 h.force⟩, trivial⟩
end Go.Proofs.YtgnccpmkdgfjeaaGreat

namespace Go.Proofs.YtgnccpmkdgfjeaaGreat
set_option linter.unusedVariables false
open Go.ChangeShapes Go.WideShapes Go.ChangeAt Go.RowKit

theorem undC : ∃ fs, Tryz.prog.underlying 24 = some (.struct fs) := ⟨_, Tryz.underlying24⟩
theorem sizeC (c : Cnf) : (Tryz.prog.info? 24).map (·.size) = some c.vals.length := by rw [c.len_vals]; kernel_rfl
theorem allocC (w : World) : (Instr.alloc 24 true (.tuple #[])).run Tryz.prog w = .ok (.pointer (some ⟨w.heap.size, 0, none⟩)) (w.alloc (vobj 24 Cnf.zero.vals)) := by kernel_rfl
theorem loadC {w : World} {g : Nat} {c : Cnf} (h : w.heap[g]? = some (vobj 24 c.vals)) : (loadVar 24 ⟨g, 0, none⟩).run Tryz.prog w = .ok (.agg (aggV c.vals)) w := by
  obtain ⟨fs, hu⟩ := undC
  exact run_load_agg w _ g c.vals _ h hu rfl (sizeC c)
theorem zeroC (w : World) : (zeroValue 24).run Tryz.prog w = .ok (.agg (aggV Cnf.zero.vals)) w := by kernel_rfl
end Go.Proofs.YtgnccpmkdgfjeaaGreat

namespace Go.Proofs.YtgnccpmkdgfjeaaGreat
set_option linter.unusedVariables false
open Go.ChangeShapes Go.WideShapes Go.ChangeAt Go.RowKit

/-- A world that comes behind w: of what was there nothing has turned. -/
structure Later (w : World) where
  v : World
  low : Below w.heap.size w v
instance (w : World) : Inhabited (Later w) := ⟨⟨w, Below.refl _ _⟩⟩
theorem wp_region_later {P : Program} {id : Nat} {Q : Exit → Act → World → Prop} {a : Act} {w : World} {l : List Oper} (hm : P.follows .mixedOrders = true) (hB : Region.lexB .any l.toArray = true)
    (h : wpQuiet P l.toArray (fun w' => ∃ p : Later w, w' = p.v) (fun a' => ∀ w', (∃ p : Later w, w' = p.v) → Q .normal a' w') l a) : (Code.region id l.toArray true).wp P Q a w :=
  wp_region_quiet (C := fun w' => ∃ p : Later w, w' = p.v) hm hB ⟨⟨{ w with drawn := w.drawn + 1 }, below_ali (Below.refl _ _) ⟨rfl, rfl, rfl, rfl⟩⟩, rfl⟩ (by simpa using h)
/-- A callee's contract, met in such a world. -/
theorem Calls.later_of {P : Program} {f : FuncId} {args : Array Value} {w : World} {p : Later w} {v : Value} (h : Calls P f args p.v fun e w' => e = .returned v ∧ Below p.v.heap.size p.v w') :
    Calls P f args p.v fun e w'' => e = .returned v ∧ ∃ p : Later w, w'' = p.v :=
  h.mono fun _ w' ⟨he, hb⟩ => ⟨he, ⟨w', p.low.trans (hb.mono p.low.size)⟩, rfl⟩
/-- One whose world stands as it was. -/
theorem Calls.later_is {P : Program} {f : FuncId} {args : Array Value} {w : World} {p : Later w} {v : Value} (h : Calls P f args p.v fun e w' => e = .returned v ∧ p.v = w') :
    Calls P f args p.v fun e w'' => e = .returned v ∧ ∃ p : Later w, w'' = p.v :=
  h.mono fun _ w' ⟨he, hb⟩ => ⟨he, p, hb.symm⟩
/-- A load whose run is said (a value of many cells: nothing opens it). -/
theorem wpQuiet_load {P : Program} {ops : Array Oper} {w : World} {Q : Act → Prop} {o : Oper} {rest : List Oper} {a : Act} (hw : Region.wanted o (yielded ops a.tmps) = true) (ty : TypeId) (x : Operand) (ho : o.op = .load ty x) (b : Nat) (hx : a.eval x = .pointer (some ⟨b, 0, none⟩)) (v : Value) (hrun : ∀ p : Later w, (Instr.loadAt ty (.pointer (some ⟨b, 0, none⟩))).run P p.v = .ok v p.v)
    (h : wpQuiet P ops (fun w' => ∃ p : Later w, w' = p.v) Q rest (a.put o.dst v)) : wpQuiet P ops (fun w' => ∃ p : Later w, w' = p.v) Q (o :: rest) a :=
  BigFrame.wpQuiet_want hw fun K hK => ⟨v, fun w' ⟨p, hp⟩ => by subst hp; unfold Oper.quietAt execOp; simp [ho, hx, hrun p, Oper.quietUpon], hK _ h⟩
theorem Later.heap {w : World} (p : Later w) {j : Nat} {o : Obj} (h : w.heap[j]? = some o) : p.v.heap[j]? = some o := kb_below h p.low
theorem Later.cell {w : World} (p : Later w) {a : Addr} {v : Value} (h : w.cell? a = some v) : p.v.cell? a = some v := (World.cell?_of_block (p.low.block _ (cell_lt h))).trans h
end Go.Proofs.YtgnccpmkdgfjeaaGreat

namespace Go.Proofs.YtgnccpmkdgfjeaaGreat
set_option linter.unusedVariables false
open Go.ChangeShapes Go.WideShapes Go.ChangeAt Go.RowKit

/-- A breaker's numbers. -/
structure BK where
  sleep : Int
  force : Int
  state : Int
  since : Int
namespace BK
structure Fits (x : BK) : Prop where
  sleep : 0 ≤ x.sleep ∧ x.sleep ≤ 18446744073709551615
  since : 0 ≤ x.since ∧ x.since ≤ 18446744073709551615
/-- One of a configuration, closed. -/
def ofC (c : Cnf) : BK := ⟨c.sleep, c.force, 1, 0⟩
theorem ofC_fits {c : Cnf} (h : c.Fits) : (ofC c).Fits := ⟨h.sleep, by show (0 : Int) ≤ 0 ∧ (0 : Int) ≤ 18446744073709551615; decide⟩
/-- Who asks: what is told, and what it is then. -/
def wakes (x : BK) (now : Int) : Prop := ¬ x.force = 1 ∧ ¬ x.force = 2 ∧ x.state = 2 ∧ addS x.since x.sleep ≤ now
instance (x : BK) (now : Int) : Decidable (x.wakes now) := by unfold wakes; infer_instance
def asked (x : BK) (now : Int) : Int := if x.force = 1 then 3 else if x.force = 2 ∨ x.state = 1 then 1 else if x.wakes now then 2 else 3
def ask (x : BK) (now : Int) : BK := if x.wakes now then { x with state := 3 } else x
def trips (x : BK) : Bool := decide (x.state = 1 ∧ x.force = 0)
def trip (x : BK) (now : Int) : BK := if x.state = 1 ∧ x.force = 0 then { x with state := 2, since := now } else x
def half (x : BK) : Bool := decide (x.state = 3)
def done (x : BK) (now : Int) (ok : Bool) : BK := if x.state = 3 then (if ok then { x with state := 1 } else { x with state := 2, since := now }) else x
def back (x : BK) : BK := if x.state = 3 then { x with state := 2 } else x
theorem ask_fits {x : BK} (h : x.Fits) (now : Int) : (x.ask now).Fits := by unfold ask; split; exact ⟨h.sleep, h.since⟩; exact h
theorem trip_fits {x : BK} (h : x.Fits) {now : Int} (hn : 0 ≤ now ∧ now ≤ 18446744073709551615) : (x.trip now).Fits := by unfold trip; split; exact ⟨h.sleep, hn⟩; exact h
theorem done_fits {x : BK} (h : x.Fits) {now : Int} (hn : 0 ≤ now ∧ now ≤ 18446744073709551615) (ok : Bool) : (x.done now ok).Fits := by
  unfold done; split
  · split; exact ⟨h.sleep, h.since⟩; exact ⟨h.sleep, hn⟩
  · exact h
theorem back_fits {x : BK} (h : x.Fits) : x.back.Fits := by unfold back; split; exact ⟨h.sleep, h.since⟩; exact h
end BK
/-- A store into the block that may turn. -/
theorem Frm.on {a w : World} {b : Nat} (h : Frm (· = b) a w) (o : Nat) (u : Value) : Frm (· = b) a (w.setCell ⟨b, o, none⟩ u) := h.set (p := ⟨b, o, none⟩) rfl u
/-- A breaker's block. -/
abbrev brobj (x : BK) : Obj := .cells #[.int .u64 x.sleep, .int .i64 x.force, .int .i64 x.state, .int .u64 x.since] 172
def Brk (w : World) (b : Nat) (x : BK) : Prop := w.heap[b]? = some (brobj x)
section
variable {w w' : World} {b : Nat} {x : BK}
theorem Brk.cells (h : Brk w b x) : w.cell? ⟨b, 0, none⟩ = some (.int .u64 x.sleep) ∧ w.cell? ⟨b, 1, none⟩ = some (.int .i64 x.force) ∧ w.cell? ⟨b, 2, none⟩ = some (.int .i64 x.state) ∧ w.cell? ⟨b, 3, none⟩ = some (.int .u64 x.since) :=
  ⟨by rw [cell_of h]; rfl, by rw [cell_of h]; rfl, by rw [cell_of h]; rfl, by rw [cell_of h]; rfl⟩
theorem Brk.lt (h : Brk w b x) : b < w.heap.size := heap_lt h
theorem Brk.below (h : Brk w b x) (hb : Below w.heap.size w w') : Brk w' b x := kb_below h hb
theorem Brk.ali (h : Brk w b x) (ha : Ali w w') : Brk w' b x := h.below (ali_below ha)
theorem Brk.frm {F : Nat → Prop} (h : Brk w b x) (hf : Frm F w w') (hn : ¬ F b) : Brk w' b x := (hf.block b h.lt hn).trans h
/-- A block of another kind is another one, and stays. -/
theorem Brk.other (h : Brk w b x) {j : Nat} {cs : Array Value} {t : TypeId} {f : Nat × Nat} (hj : w.heap[j]? = some (.cells cs t f)) (ht : t ≠ 172) : j ≠ b := by
  rintro rfl
  rw [show w.heap[j]? = _ from h] at hj
  injection hj with hj
  injection hj with _ hj
  exact ht hj.symm
theorem Brk.kept (h : Brk w b x) (hf : Frm (· = b) w w') {j : Nat} {cs : Array Value} {t : TypeId} {f : Nat × Nat} (hj : w.heap[j]? = some (.cells cs t f)) (ht : t ≠ 172) : w'.heap[j]? = some (.cells cs t f) := by
  rw [hf.block j (heap_lt hj) (h.other hj ht)]; exact hj
theorem Brk.state (h : Brk w b x) (n : Int) : Brk (w.setCell ⟨b, 2, none⟩ (.int .i64 n)) b { x with state := n } := by
  unfold Brk at *
  rw [heap_set_same h]; rfl
theorem Brk.since (h : Brk w b x) (n : Int) : Brk (w.setCell ⟨b, 3, none⟩ (.int .u64 n)) b { x with since := n } := by
  unfold Brk at *
  rw [heap_set_same h]; rfl
end

set_option maxRecDepth 100000 in
set_option maxHeartbeats 1000000 in
theorem new_brk (c : Cnf) (w : World) :
    Calls Tryz.prog 36 #[.agg (aggV c.vals)] w fun r w' => ∃ b, r = .returned (.pointer (some ⟨b, 0, none⟩)) ∧ w.heap.size ≤ b ∧ Brk w' b (BK.ofC c) ∧ Below w.heap.size w w' := by
  obtain ⟨g, hg⟩ : ∃ g, w.heap.size = g := ⟨_, rfl⟩
  go_enter Tryz.func36, Tryz.ntmps36
  go_wp2_with (first
    | (refine wpList_box_agg rfl 24 _ rfl g hg c.vals rfl ?_; intro w1 h1 l1 s1;
       obtain ⟨c0, c1, c2, c3, c4, c5, c6, c7, c8, c9, c10, c11, c12, c13, c14, c15⟩ := Cnf.cells_vals h1;
       have HO := Lib.hid (heap_alloc_at w1 (brobj (BK.ofC c)));
       have HB := Lib.hid (l1.trans ((below_alloc w1 (brobj (BK.ofC c))).mono (by omega)));
       clear h1 l1 c0 c1 c2 c3 c4 c5 c6 c7 c8 c9 c11 c12 c13 c14))
  go_ret
  subst hg
  exact ⟨w.heap.size + 1, rfl, by omega, by rw [← s1]; exact HO.out, HB.out⟩

theorem state_nil (w : World) : Calls Tryz.prog 58 #[.pointer none] w fun r w' => r = .returned (.int .i64 0) ∧ w' = w := by
  go_enter Tryz.func58, Tryz.ntmps58
  go_wp2
  go_ret
  exact ⟨rfl, rfl⟩
theorem ask_nil (now : Int) (w : World) : Calls Tryz.prog 134 #[.pointer none, .int .u64 now] w fun r w' => r = .returned (.int .i64 3) ∧ w' = w := by
  go_enter Tryz.func134, Tryz.ntmps134
  go_wp2
  go_ret
  exact ⟨rfl, rfl⟩
theorem trip_nil (now : Int) (w : World) : Calls Tryz.prog 124 #[.pointer none, .int .u64 now] w fun r w' => r = .returned (.bool false) ∧ w' = w := by
  go_enter Tryz.func124, Tryz.ntmps124
  go_wp2
  go_ret
  exact ⟨rfl, rfl⟩
theorem done_nil (now : Int) (ok : Bool) (w : World) : Calls Tryz.prog 121 #[.pointer none, .int .u64 now, .bool ok] w fun r w' => r = .returned (.bool false) ∧ w' = w := by
  go_enter Tryz.func121, Tryz.ntmps121
  go_wp2
  go_ret
  exact ⟨rfl, rfl⟩
theorem back_nil (w : World) : Calls Tryz.prog 171 #[.pointer none] w fun r w' => r = .returned (.bool false) ∧ w' = w := by
  go_enter Tryz.func171, Tryz.ntmps171
  go_wp2
  go_ret
  exact ⟨rfl, rfl⟩
theorem state_brk (b : Nat) (x : BK) (w : World) (h : Brk w b x) : Calls Tryz.prog 58 #[.pointer (some ⟨b, 0, none⟩)] w fun r w' => r = .returned (.int .i64 x.state) ∧ w' = w := by
  obtain ⟨c0, c1, c2, c3⟩ := h.cells
  go_enter Tryz.func58, Tryz.ntmps58
  go_wp2
  go_ret
  exact ⟨rfl, rfl⟩
theorem open_brk (b : Nat) (now : Int) (x : BK) (w : World) (h : Brk w b x) :
    Calls Tryz.prog 162 #[.pointer (some ⟨b, 0, none⟩), .int .u64 now] w fun r w' => r = .returned (.tuple #[]) ∧ Brk w' b { x with state := 2, since := now } ∧ Frm (· = b) w w' := by
  obtain ⟨c0, c1, c2, c3⟩ := h.cells
  have z2 : w.frozen? ⟨b, 2, none⟩ = false := frozen_of h 2
  have z3 : w.frozen? ⟨b, 3, none⟩ = false := frozen_of h 3
  have HB := Lib.hid ((h.state 2).since now)
  have HF := Lib.hid (((Frm.refl (· = b) w).set (p := ⟨b, 2, none⟩) rfl (.int .i64 2)).set (p := ⟨b, 3, none⟩) rfl (.int .u64 now))
  clear h
  go_enter Tryz.func162, Tryz.ntmps162
  go_wp2
  refine bodyPost_end (results_none rfl _ _ _) rfl ?_
  exact ⟨rfl, HB.out, HF.out⟩
end Go.Proofs.YtgnccpmkdgfjeaaGreat
