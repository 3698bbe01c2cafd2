/- Words and lemmas of my own by which a law's arguments are opened and given back, whatever their number. -/
import Derived.Test.YtfncipoiblieeaaRows
import Derived.WalkKit
import Derived.ProofKit
import Derived.OpenShut
import Derived.ShutString
import Derived.ChangeOld
import Derived.Below
import Derived.Carry
import Derived.SizedLaws
import Derived.Deep.Slices
import Derived.Lib.Hide
import Derived.IntWalk
import Derived.WalkSpells
namespace Go.Proofs.Ytfncipoiblieeaa
open Go.ChangeShapes Go.WideShapes Go.ChangeAt Go.RowKit Go.Deep
open Go.ChangeMaps (open_string shut_string)

theorem ret_int {k : IntKind} {a b : Int} (h : a = b) : Ending.returned (.int k a) = .returned (.int k b) := by rw [h]
theorem ret_bool {a b : Bool} (h : a = b) : Ending.returned (.bool a) = .returned (.bool b) := by rw [h]

/-- Arguments that were read before a call read as they did, where nothing that was there has turned. -/
theorem trodAll_below {H : Type} {enc : TypeId × Value → H} {P : Program} (hl : laidOutB P = true) {W W' : World} (hb : Below W.heap.size W W') :
    ∀ (ts : List TypeId) (vs : List Value) (ds : List (DataW H)) (ps : List MemPlace), (ts.all fun t => P.readableRec t && decide (t < P.types.size)) = true →
      DataW.TrodAll enc P W 0 (fun _ => true) true ts vs ds ps → DataW.TrodAll enc P W' 0 (fun b => decide (b < W.heap.size)) true ts vs ds ps
  | [], [], [], _, _, h => h
  | t :: ts, v :: vs, d :: ds, ps, hr, h => by
    obtain ⟨p, q, h1, h2, e⟩ := h
    simp only [List.all_cons, Bool.and_eq_true, decide_eq_true_eq] at hr
    refine ⟨p, q, Below.trod hl hr.1.1 hr.1.2 h1 hb ?_, trodAll_below hl hb ts vs ds q hr.2 h2, e⟩
    obtain ⟨m, hm⟩ := h1
    exact DataW.trod_lt m _ _ _ hm
  | [], _ :: _, _, _, _, h => h.elim
  | [], [], _ :: _, _, _, h => h.elim
  | _ :: _, [], _, _, _, h => h.elim
  | _ :: _, _ :: _, [], _, _, h => h.elim

/-- What one cell of plain data may hold: an integer of a kind, a bool, a string. -/
abbrev CK := Option (Option IntKind)
abbrev CK.int (k : IntKind) : CK := some (some k)
abbrev CK.bool : CK := some Option.none
abbrev CK.str : CK := Option.none

def CK.ok : CK → Value → Prop
  | some (some k), v => ∃ n, v = .int k n ∧ (Lit.int k n).wf = true
  | some Option.none, v => ∃ b, v = .bool b
  | Option.none, v => ∃ s : ByteArray, v = .string s ∧ s.size ≤ maxLen

/-- The cells of plain data, kind by kind. -/
def Flat : List CK → List Value → Prop
  | [], [] => True
  | c :: cs, v :: vs => c.ok v ∧ Flat cs vs
  | _, _ => False

theorem Flat.length : ∀ {ks : List CK} {vs : List Value}, Flat ks vs → vs.length = ks.length
  | [], [], _ => rfl
  | _ :: _, _ :: _, h => by simp [Flat.length h.2]
  | [], _ :: _, h => h.elim
  | _ :: _, [], h => h.elim
theorem Flat.append : ∀ {a : List CK} {b : List CK} {u v : List Value}, Flat a u → Flat b v → Flat (a ++ b) (u ++ v)
  | [], _, [], _, _, h => h
  | _ :: _, _, _ :: _, _, h, g => ⟨h.1, h.2.append g⟩
  | [], _, _ :: _, _, h, _ => h.elim
  | _ :: _, _, [], _, h, _ => h.elim

def fieldKinds (P : Program) (g : TypeId → Option (List CK)) : List Field → Nat → Option (List CK)
  | [], _ => some []
  | fd :: fs, off => (g fd.type).bind fun l => if fd.offset = off ∧ P.cellsOf fd.type = l.length then (fieldKinds P g fs (off + l.length)).map (l ++ ·) else none
/-- The kinds of a type's cells, where it is plain data laid out in a row. -/
def kindsOf (P : Program) : Nat → TypeId → Option (List CK)
  | 0, _ => none
  | f + 1, t =>
    match P.underlying t with
    | some .bool => some [.bool]
    | some (.int k) => some [.int k]
    | some .string => some [.str]
    | some (.struct fs) => (fieldKinds P (kindsOf P f) fs.toList 0).bind fun l => if P.cellsOf t = l.length then some l else none
    | some (.array n e) => (kindsOf P f e).bind fun l => if P.cellsOf e = l.length ∧ P.cellsOf t = n * l.length then some (List.replicate n l).flatten else none
    | _ => none

section
variable {H : Type} {enc : TypeId × Value → H} {P : Program} {w : World} {base : Nat} {spare : Nat → Bool} {held : Bool}

theorem flat_fields {g : TypeId → Option (List CK)} {n : Nat}
    (hg : ∀ t ks cs x, g t = some ks → DataW.trod enc P w base spare held n t cs = some x → Flat ks cs) :
    ∀ (fs : List Field) (off : Nat) (ks : List CK) (cs : List Value), fieldKinds P g fs off = some ks → cs.length = off + ks.length →
      (∀ fd ∈ fs, ∃ x, DataW.trod enc P w base spare held n fd.type ((cs.drop fd.offset).take (P.cellsOf fd.type)) = some x) → Flat ks (cs.drop off)
  | [], off, ks, cs, h, hl, _ => by
    simp only [fieldKinds, Option.some.injEq] at h
    subst h
    rw [List.drop_of_length_le (by simp at hl; omega)]
    trivial
  | fd :: fs, off, ks, cs, h, hl, hx => by
    simp only [fieldKinds, Option.bind_eq_some_iff] at h
    obtain ⟨l, h1, h⟩ := h
    split at h
    · rename_i hc
      simp only [Option.map_eq_some_iff] at h
      obtain ⟨l', h2, rfl⟩ := h
      obtain ⟨x, hx0⟩ := hx fd (by simp)
      have f1 := hg _ _ _ _ h1 hx0
      rw [hc.1, hc.2] at f1
      have f2 := flat_fields hg fs (off + l.length) l' cs h2 (by simp at hl; omega) (fun fd' hm => hx fd' (by simp [hm]))
      have e : cs.drop off = (cs.drop off).take l.length ++ cs.drop (off + l.length) := by
        rw [← List.drop_drop, List.take_append_drop]
      rw [e]
      exact f1.append f2
    · cases h

theorem flat_items {l : List CK} : ∀ (n : Nat) (cs : List Value), cs.length = n * l.length → (∀ i, i < n → Flat l ((cs.drop (i * l.length)).take l.length)) → Flat (List.replicate n l).flatten cs
  | 0, cs, hl, _ => by
    have : cs = [] := List.eq_nil_of_length_eq_zero (by simpa using hl)
    subst this
    trivial
  | n + 1, cs, hl, h => by
    have hl' : cs.length = n * l.length + l.length := by rw [hl, Nat.succ_mul]
    rw [List.replicate_succ, List.flatten_cons]
    have e : cs = cs.take l.length ++ cs.drop l.length := (List.take_append_drop _ _).symm
    rw [e]
    refine Flat.append (by simpa using h 0 (by omega)) (flat_items n _ (by simp; omega) fun i hi => ?_)
    have := h (i + 1) (by omega)
    rw [List.drop_drop]
    rw [show l.length + i * l.length = (i + 1) * l.length by rw [Nat.succ_mul]; omega]
    exact this

theorem flat_trod : ∀ (f : Nat) (t : TypeId) (ks : List CK) (fuel : Nat) (cs : List Value) (x : DataW H × List MemPlace),
    kindsOf P f t = some ks → DataW.trod enc P w base spare held fuel t cs = some x → Flat ks cs
  | 0, _, _, _, _, _, h, _ => by simp [kindsOf] at h
  | f + 1, t, ks, fuel, cs, x, h, hx => by
    unfold kindsOf at h
    split at h
    · rename_i ht
      obtain ⟨b, rfl, _⟩ := DataW.trod_bool ht hx
      cases h
      exact ⟨⟨b, rfl⟩, trivial⟩
    · rename_i k ht
      obtain ⟨n, rfl, _, hw⟩ := DataW.trod_int ht hx
      cases h
      exact ⟨⟨n, rfl, hw⟩, trivial⟩
    · rename_i ht
      obtain ⟨s, rfl, _, hs⟩ := DataW.trod_string ht hx
      cases h
      exact ⟨⟨s, rfl, hs⟩, trivial⟩
    · rename_i fs ht
      simp only [Option.bind_eq_some_iff] at h
      obtain ⟨l, h1, h⟩ := h
      split at h
      · rename_i hc
        cases h
        obtain ⟨xs, n, _, _, hlen, hxl, hf⟩ := DataW.trod_struct ht hx
        have := flat_fields (g := kindsOf P f) (n := n) (fun t ks cs x h1 h2 => flat_trod f t ks n cs x h1 h2) fs.toList 0 ks cs h1 (by omega) (fun fd hm => by
          obtain ⟨i, hi, he⟩ := List.getElem_of_mem hm
          have hi' : i < fs.size := by simpa using hi
          have hfs : fs[i]? = some fd := by rw [Array.getElem?_eq_getElem hi', ← he]; simp
          have := hf i fd hfs
          rw [List.getElem?_eq_getElem (by omega)] at this
          exact ⟨_, this⟩)
        simpa using this
      · cases h
    · rename_i n e ht
      simp only [Option.bind_eq_some_iff] at h
      obtain ⟨l, h1, h⟩ := h
      split at h
      · rename_i hc
        cases h
        obtain ⟨xs, m, _, _, hlen, hxl, hf⟩ := DataW.trod_array ht hx
        refine flat_items n cs (by omega) fun i hi => ?_
        have := hf i hi
        rw [List.getElem?_eq_getElem (by omega)] at this
        rw [← hc.1]
        exact flat_trod f e l m _ _ h1 this
      · cases h
    · cases h

/-- A struct or an array of plain data, by value. -/
theorem open_flat {r : Reach} {b0 : Nat} {t : TypeId} {v : Value} {d : DataW H} {p : List MemPlace} {ks : List CK} (f : Nat) (hk : kindsOf P f t = some ks)
    (hagg : (match P.underlying t with | some (.struct _) | some (.array _ _) => true | _ => false) = true)
    (hv : Value.okWide P w r b0 t v) (h : DataW.Trod enc P w base spare held t v d p) : ∃ cs, v = .agg cs ∧ Flat ks cs.toList := by
  obtain ⟨cs, rfl⟩ : ∃ cs, v = .agg cs := by
    unfold Value.okWide at hv
    split at hv
    · obtain ⟨cs, h, _⟩ := hv; exact ⟨cs, h⟩
    · obtain ⟨cs, h, _⟩ := hv; exact ⟨cs, h⟩
    · split at hagg
      · simp_all
      · simp_all
      · cases hagg
  obtain ⟨fuel, hf⟩ := h
  exact ⟨cs, rfl, flat_trod f t ks fuel _ _ hk (by simpa [Value.cells] using hf)⟩

/-- A slice of plain data that came in: its rows, in turn; where they lie; how long it can be. -/
def SliceIn (w : World) (ks : List CK) (bytes : Nat) (a : Option Addr) (len cap : Nat) (L : List (List Value)) : Prop :=
  L.length = len ∧ (∀ row ∈ L, Flat ks row) ∧ len ≤ cap ∧ cap * bytes ≤ 140737488351232 ∧ cap ≤ maxLen ∧
  (len = 0 ∨ ∃ b off, a = some ⟨b, off, none⟩ ∧ b < w.heap.size ∧ ∀ i j row u, L[i]? = some row → row[j]? = some u → w.cell? ⟨b, off + (i * ks.length + j), none⟩ = some u)

theorem open_slice_flat {r : Reach} {b0 : Nat} {t e : TypeId} {v : Value} {d : DataW H} {p : List MemPlace} {ks : List CK} {bytes : Nat} (f : Nat) (ht : P.underlying t = some (.slice e)) (hk : kindsOf P f e = some ks)
    (hC : P.cellsOf e = ks.length) (hpos : 0 < ks.length) (hbytes : P.bytesOf e = bytes) (hv : Value.okWide P w r b0 t v) (h : DataW.Trod enc P w 0 (fun _ => true) held t v d p)
    (hsz : ∀ elems rest, d = .slice elems rest → (elems.length + rest.length) * P.bytesOf e ≤ reachBytes) :
    ∃ a len cap L, v = .slice a len cap ∧ SliceIn w ks bytes a len cap L := by
  obtain ⟨a, len, cap, rfl⟩ := okWide_slice ht hv
  obtain ⟨fuel, hf⟩ := h
  rcases open_slice ht hf with ⟨hcs, _⟩ | ⟨x, l, c, m, n, D, Pl, hcs, _, hl, hm, hmm, hx, hi⟩
  · simp [Value.cells] at hcs
    obtain ⟨rfl, rfl, rfl⟩ := hcs
    exact ⟨none, 0, 0, [], rfl, rfl, by simp, by omega, by omega, by decide, .inl rfl⟩
  · simp [Value.cells] at hcs
    obtain ⟨rfl, rfl, rfl⟩ := hcs
    simp only [if_true] at hmm
    have hmm' := hmm.symm
    subst hmm'
    simp only [Prod.mk.injEq] at hx
    have hs := hsz _ _ hx.1
    simp only [List.length_map, List.length_range, hbytes, reachBytes] at hs
    have hrow : ∀ i, i < len → ∃ row : List Value, Flat ks row ∧ ∀ j u, row[j]? = some u → w.cell? (x.add (i * ks.length + j)) = some u := by
      intro i hil
      obtain ⟨row, hc, hr⟩ := hi i (by omega)
      have hfl := flat_trod f e ks n row _ hk hr
      obtain ⟨_, hcl, hat⟩ := World.cells?_some hc
      refine ⟨row, hfl, fun j u hu => ?_⟩
      have hj : j < P.cellsOf e := by
        rw [← hcl]
        exact (List.getElem?_eq_some_iff.1 hu).1
      have := hat j hj
      rw [Go.Deep.add_add, hC] at this
      rw [this, hu]
    have hL : ∀ n, n ≤ len → ∃ L : List (List Value), L.length = n ∧ ∀ i row, L[i]? = some row → Flat ks row ∧ ∀ j u, row[j]? = some u → w.cell? (x.add (i * ks.length + j)) = some u := by
      intro n
      induction n with
      | zero => intro _; exact ⟨[], rfl, by simp⟩
      | succ n ih =>
        intro hn
        obtain ⟨L, hl1, hl2⟩ := ih (by omega)
        obtain ⟨row, hr⟩ := hrow n (by omega)
        refine ⟨L ++ [row], by simp [hl1], fun i row' hi' => ?_⟩
        rw [List.getElem?_append] at hi'
        split at hi'
        · exact hl2 i row' hi'
        · rename_i hge
          have hi0 : i - L.length = 0 := by
            have := (List.getElem?_eq_some_iff.1 hi').1
            simp at this; omega
          rw [hi0] at hi'
          simp at hi'
          subst hi'
          obtain rfl : i = n := by omega
          exact hr
    obtain ⟨L, hl1, hl2⟩ := hL len (Nat.le_refl _)
    refine ⟨some x, len, cap, L, rfl, hl1, fun row hr => ?_, hl, ?_, hm, ?_⟩
    · obtain ⟨i, hi', he⟩ := List.getElem_of_mem hr
      exact (hl2 i row (by rw [List.getElem?_eq_getElem hi', he])).1
    · have : len + (cap - len) = cap := by omega
      rw [this] at hs
      exact hs
    · by_cases h0 : len = 0
      · exact .inl h0
      · right
        obtain ⟨b, off, spot⟩ := x
        have h00 : L[0]? = some (L[0]'(by omega)) := List.getElem?_eq_getElem (by omega)
        obtain ⟨hf0, hc0⟩ := hl2 0 _ h00
        have hl0 := hf0.length
        have hu0 : (L[0]'(by omega))[0]? = some ((L[0]'(by omega))[0]'(by omega)) := List.getElem?_eq_getElem (by omega)
        have hcell := hc0 0 _ hu0
        have hspot : spot = none := by simpa [Addr.add] using World.cell?_spot hcell
        subst hspot
        have hlt := World.block_lt_of_cell? _ _ hcell
        refine ⟨b, off, rfl, by simpa [Addr.add] using hlt, fun i j row u h1 h2 => ?_⟩
        have := (hl2 i row h1).2 j u h2
        rwa [Go.WideShapes.add_plain] at this

theorem SliceIn.later {w' : World} {ks : List CK} {bytes : Nat} {a : Option Addr} {len cap : Nat} {L : List (List Value)} (h : SliceIn w ks bytes a len cap L) (hb : Below w.heap.size w w') : SliceIn w' ks bytes a len cap L := by
  obtain ⟨h1, h2, h3, h4, h5, h6⟩ := h
  refine ⟨h1, h2, h3, h4, h5, ?_⟩
  rcases h6 with h6 | ⟨b, off, e, hlt, hc⟩
  · exact .inl h6
  · exact .inr ⟨b, off, e, Nat.lt_of_lt_of_le hlt hb.size, fun i j row u x y => cell_later hb (hc i j row u x y)⟩
/-- A slice of integers of one kind, as the list of them. -/
theorem SliceIn.ints {k : IntKind} {bytes : Nat} {a : Option Addr} {len cap : Nat} {L : List (List Value)} (h : SliceIn w [.int k] bytes a len cap L) :
    ∃ zs : List Int, zs.length = len ∧ (∀ n ∈ zs, (Lit.int k n).wf = true) ∧ len ≤ cap ∧ cap * bytes ≤ 140737488351232 ∧ cap ≤ maxLen ∧
      (len = 0 ∨ ∃ b off, a = some ⟨b, off, none⟩ ∧ b < w.heap.size ∧ ∀ j, j < zs.length → w.cell? ⟨b, off + j, none⟩ = some (.int k (zs.getD j 0))) := by
  obtain ⟨h1, h2, h3, h4, h5, h6⟩ := h
  have hz : ∀ M : List (List Value), (∀ row ∈ M, Flat [.int k] row) → ∃ zs : List Int, M = zs.map (fun z => [.int k z]) ∧ ∀ n ∈ zs, (Lit.int k n).wf = true := by
    intro M
    induction M with
    | nil => intro _; exact ⟨[], rfl, by simp⟩
    | cons row M ih =>
      intro hM
      obtain ⟨zs, e, hz⟩ := ih (fun r hr => hM r (by simp [hr]))
      have := hM row (by simp)
      match row, this with
      | [v], ⟨⟨n, hv, hw⟩, _⟩ =>
        subst hv
        exact ⟨n :: zs, by simp [e], by intro m hm; rcases List.mem_cons.1 hm with rfl | hm; exact hw; exact hz m hm⟩
  obtain ⟨zs, rfl, hw⟩ := hz L h2
  refine ⟨zs, by simpa using h1, hw, h3, h4, h5, ?_⟩
  rcases h6 with h6 | ⟨b, off, e, hlt, hc⟩
  · exact .inl h6
  · refine .inr ⟨b, off, e, hlt, fun j hj => ?_⟩
    have := hc j 0 [.int k (zs.getD j 0)] (.int k (zs.getD j 0)) (by simp [hj]) rfl
    simpa using this
end
/-- A slice whose first cells, up to its length at least, hold the numbers zs. -/
def Row (k : IntKind) (w : World) (a : Option Addr) (len : Nat) (zs : List Int) : Prop :=
  len ≤ zs.length ∧ len ≤ maxLen ∧ (len = 0 ∨ ∃ b off, a = some ⟨b, off, none⟩ ∧ ∀ j, j < zs.length → w.cell? ⟨b, off + j, none⟩ = some (.int k (zs.getD j 0))) ∧ ∀ n ∈ zs, (Lit.int k n).wf = true
theorem SliceIn.row {w : World} {k : IntKind} {bytes : Nat} {a : Option Addr} {len cap : Nat} {L : List (List Value)} (h : SliceIn w [.int k] bytes a len cap L) : ∃ zs : List Int, zs.length = len ∧ Row k w a len zs := by
  obtain ⟨zs, h1, h2, h3, _, h5, h6⟩ := h.ints
  refine ⟨zs, h1, by omega, by omega, ?_, h2⟩
  rcases h6 with h6 | ⟨b, off, e, _, hc⟩
  · exact .inl h6
  · exact .inr ⟨b, off, e, hc⟩
theorem wf_getD {k : IntKind} {zs : List Int} (h : ∀ n ∈ zs, (Lit.int k n).wf = true) {j : Nat} (hj : j < zs.length) : (Lit.int k (zs.getD j 0)).wf = true := by
  rw [List.getD_eq_getElem?_getD, List.getElem?_eq_getElem hj]
  exact h _ (List.getElem_mem hj)
theorem Row.later {k : IntKind} {w w' : World} {a : Option Addr} {len : Nat} {zs : List Int} (h : Row k w a len zs) (hb : Below w.heap.size w w') : Row k w' a len zs := by
  obtain ⟨hz, hm, hc, hwf⟩ := h
  refine ⟨hz, hm, ?_, hwf⟩
  rcases hc with hc | ⟨b, off, rfl, hc⟩
  · exact .inl hc
  · exact .inr ⟨b, off, rfl, fun j hj => cell_later hb (hc j hj)⟩
theorem wf_u64 {n : Int} (h : (Lit.int .u64 n).wf = true) : 0 ≤ n ∧ n ≤ 18446744073709551615 := by
  have := bounds_u64 h
  omega
theorem Flat.two {k k' : IntKind} {c : Array Value} (h : Flat [.int k, .int k'] c.toList) : ∃ x y, c = #[.int k x, .int k' y] ∧ (Lit.int k x).wf = true ∧ (Lit.int k' y).wf = true := by
  obtain ⟨l⟩ := c
  match l, h with
  | [_, _], ⟨⟨x, e0, u0⟩, ⟨y, e1, u1⟩, _⟩ =>
    subst e0 e1
    exact ⟨x, y, rfl, u0, u1⟩
end Go.Proofs.Ytfncipoiblieeaa
