/- Structs by value with slices in them, as a law's arguments: opened cell by cell, each slice of plain data with its rows. -/
import Derived.Test.YtpfmjocpgnoepaaKit
namespace Go.Proofs.Ytpfmjocpgnoepaa
open Go.ChangeShapes Go.WideShapes Go.ChangeAt Go.RowKit Go.Deep

/-- A cell of what comes in by value: plain data, or a slice of plain data, whose elements have so many bytes. -/
inductive CS where
  | lit (k : CK)
  | row (ks : List CK) (bytes : Nat)

def CS.ok (w : World) : CS → Value → Prop
  | .lit k, v => k.ok v
  | .row ks bytes, v => ∃ a len cap L, v = .slice a len cap ∧ SliceIn w ks bytes a len cap L
/-- The cells of a struct with slices in it. -/
def Shp (w : World) : List CS → List Value → Prop
  | [], [] => True
  | c :: cs, v :: vs => c.ok w v ∧ Shp w cs vs
  | _, _ => False
theorem Shp.append {w : World} : ∀ {a b : List CS} {u v : List Value}, Shp w a u → Shp w b v → Shp w (a ++ b) (u ++ v)
  | [], _, [], _, _, h => h
  | _ :: _, _, _ :: _, _, h, g => ⟨h.1, h.2.append g⟩
  | [], _, _ :: _, _, h, _ => h.elim
  | _ :: _, _, [], _, h, _ => h.elim
theorem Shp.lits {w : World} : ∀ {ks : List CK} {vs : List Value}, Flat ks vs → Shp w (ks.map .lit) vs
  | [], [], _ => trivial
  | _ :: _, _ :: _, h => ⟨h.1, Shp.lits h.2⟩
  | [], _ :: _, h => h.elim
  | _ :: _, [], h => h.elim

def fieldShapes (P : Program) (g : TypeId → Option (List CS)) : List Field → Nat → Option (List CS)
  | [], _ => some []
  | fd :: fs, off => (g fd.type).bind fun l => if fd.offset = off ∧ P.cellsOf fd.type = l.length then (fieldShapes P g fs (off + l.length)).map (l ++ ·) else none
/-- The cells of a type: plain data, slices of plain data, and structs of these. -/
def shapesOf (P : Program) : Nat → TypeId → Option (List CS)
  | 0, _ => none
  | f + 1, t =>
    match P.underlying t with
    | some (.slice e) => (kindsOf P f e).bind fun l => if P.cellsOf e = l.length ∧ 0 < l.length then some [.row l (P.bytesOf e)] else none
    | some (.struct fs) => (fieldShapes P (shapesOf P f) fs.toList 0).bind fun l => if P.cellsOf t = l.length then some l else none
    | _ => (kindsOf P (f + 1) t).map (·.map .lit)

section
variable {H : Type} {enc : TypeId × Value → H} {P : Program} {w : World} {held : Bool}

theorem slice_flat {t e : TypeId} {fuel : Nat} {cs : List Value} {x : DataW H × List MemPlace} {ks : List CK} {bytes : Nat} (f : Nat) (ht : P.underlying t = some (.slice e)) (hk : kindsOf P f e = some ks)
    (hC : P.cellsOf e = ks.length) (hpos : 0 < ks.length) (hbytes : P.bytesOf e = bytes) (hf : DataW.trod enc P w 0 (fun _ => true) held fuel t cs = some x)
    (hsz : (x.1.weights P t).all (· ≤ reachBytes) = true) :
    ∃ a len cap L, cs = [.slice a len cap] ∧ SliceIn w ks bytes a len cap L := by
  rcases open_slice ht hf with ⟨hcs, _⟩ | ⟨xa, l, c, m, n, D, Pl, hcs, _, hl, hm, hmm, hx, hi⟩
  · subst hcs
    exact ⟨none, 0, 0, [], rfl, rfl, by simp, by omega, by omega, by decide, .inl rfl⟩
  · subst hcs
    simp only [if_true] at hmm
    have hmm' := hmm.symm
    subst hmm'
    have hs : (l + (c - l)) * P.bytesOf e ≤ reachBytes := by
      have := List.all_eq_true.1 hsz ((((List.range l).map D).length + ((List.range (c - l)).map fun j => D (l + j)).length) * P.bytesOf e) (by rw [hx]; simp only [DataW.weights, ht, List.mem_cons, true_or])
      simpa using this
    simp only [hbytes, reachBytes] at hs
    have hrow : ∀ i, i < l → ∃ row : List Value, Flat ks row ∧ ∀ j u, row[j]? = some u → w.cell? (xa.add (i * ks.length + j)) = some u := by
      intro i hil
      obtain ⟨row, hc, hr⟩ := hi i (by omega)
      have hfl := flat_trod f e ks n row _ hk hr
      obtain ⟨_, hcl, hat⟩ := World.cells?_some hc
      refine ⟨row, hfl, fun j u hu => ?_⟩
      have hj : j < P.cellsOf e := by
        rw [← hcl]
        exact (List.getElem?_eq_some_iff.1 hu).1
      have := hat j hj
      rw [Go.Deep.add_add, hC] at this
      rw [this, hu]
    have hL : ∀ n, n ≤ l → ∃ L : List (List Value), L.length = n ∧ ∀ i row, L[i]? = some row → Flat ks row ∧ ∀ j u, row[j]? = some u → w.cell? (xa.add (i * ks.length + j)) = some u := by
      intro n
      induction n with
      | zero => intro _; exact ⟨[], rfl, by simp⟩
      | succ n ih =>
        intro hn
        obtain ⟨L, hl1, hl2⟩ := ih (by omega)
        obtain ⟨row, hr⟩ := hrow n (by omega)
        refine ⟨L ++ [row], by simp [hl1], fun i row' hi' => ?_⟩
        rw [List.getElem?_append] at hi'
        split at hi'
        · exact hl2 i row' hi'
        · rename_i hge
          have hi0 : i - L.length = 0 := by
            have := (List.getElem?_eq_some_iff.1 hi').1
            simp at this; omega
          rw [hi0] at hi'
          simp at hi'
          subst hi'
          obtain rfl : i = n := by omega
          exact hr
    obtain ⟨L, hl1, hl2⟩ := hL l (Nat.le_refl _)
    refine ⟨some xa, l, c, L, rfl, hl1, fun row hr => ?_, hl, ?_, hm, ?_⟩
    · obtain ⟨i, hi', he⟩ := List.getElem_of_mem hr
      exact (hl2 i row (by rw [List.getElem?_eq_getElem hi', he])).1
    · have : l + (c - l) = c := by omega
      rw [this] at hs
      exact hs
    · by_cases h0 : l = 0
      · exact .inl h0
      · right
        obtain ⟨b, off, spot⟩ := xa
        have h00 : L[0]? = some (L[0]'(by omega)) := List.getElem?_eq_getElem (by omega)
        obtain ⟨hf0, hc0⟩ := hl2 0 _ h00
        have hl0 := hf0.length
        have hu0 : (L[0]'(by omega))[0]? = some ((L[0]'(by omega))[0]'(by omega)) := List.getElem?_eq_getElem (by omega)
        have hcell := hc0 0 _ hu0
        have hspot : spot = none := by simpa [Addr.add] using World.cell?_spot hcell
        subst hspot
        have hlt := World.block_lt_of_cell? _ _ hcell
        refine ⟨b, off, rfl, by simpa [Addr.add] using hlt, fun i j row u h1 h2 => ?_⟩
        have := (hl2 i row h1).2 j u h2
        rwa [Go.WideShapes.add_plain] at this

theorem shp_fields {g : TypeId → Option (List CS)} {n : Nat}
    (hg : ∀ t ss cs x, g t = some ss → DataW.trod enc P w 0 (fun _ => true) held n t cs = some x → (x.1.weights P t).all (· ≤ reachBytes) = true → Shp w ss cs) :
    ∀ (fs : List Field) (off : Nat) (ss : List CS) (cs : List Value), fieldShapes P g fs off = some ss → cs.length = off + ss.length →
      (∀ fd ∈ fs, ∃ x, DataW.trod enc P w 0 (fun _ => true) held n fd.type ((cs.drop fd.offset).take (P.cellsOf fd.type)) = some x ∧ (x.1.weights P fd.type).all (· ≤ reachBytes) = true) → Shp w ss (cs.drop off)
  | [], off, ss, cs, h, hl, _ => by
    simp only [fieldShapes, Option.some.injEq] at h
    subst h
    rw [List.drop_of_length_le (by simp at hl; omega)]
    trivial
  | fd :: fs, off, ss, cs, h, hl, hx => by
    simp only [fieldShapes, Option.bind_eq_some_iff] at h
    obtain ⟨l, h1, h⟩ := h
    split at h
    · rename_i hc
      simp only [Option.map_eq_some_iff] at h
      obtain ⟨l', h2, rfl⟩ := h
      obtain ⟨x, hx0, hx1⟩ := hx fd (by simp)
      have f1 := hg _ _ _ _ h1 hx0 hx1
      rw [hc.1, hc.2] at f1
      have f2 := shp_fields hg fs (off + l.length) l' cs h2 (by simp at hl; omega) (fun fd' hm => hx fd' (by simp [hm]))
      have e : cs.drop off = (cs.drop off).take l.length ++ cs.drop (off + l.length) := by
        rw [← List.drop_drop, List.take_append_drop]
      rw [e]
      exact f1.append f2
    · cases h

theorem shp_trod : ∀ (f : Nat) (t : TypeId) (ss : List CS) (fuel : Nat) (cs : List Value) (x : DataW H × List MemPlace),
    shapesOf P f t = some ss → DataW.trod enc P w 0 (fun _ => true) held fuel t cs = some x → (x.1.weights P t).all (· ≤ reachBytes) = true → Shp w ss cs
  | 0, _, _, _, _, _, h, _, _ => by simp [shapesOf] at h
  | f + 1, t, ss, fuel, cs, x, h, hx, hsz => by
    unfold shapesOf at h
    split at h
    · rename_i e ht
      simp only [Option.bind_eq_some_iff] at h
      obtain ⟨l, h1, h⟩ := h
      split at h
      · rename_i hc
        cases h
        obtain ⟨a, len, cap, L, rfl, hL⟩ := slice_flat f ht h1 hc.1 hc.2 rfl hx hsz
        exact ⟨⟨a, len, cap, L, rfl, hL⟩, trivial⟩
      · cases h
    · rename_i fs ht
      simp only [Option.bind_eq_some_iff] at h
      obtain ⟨l, h1, h⟩ := h
      split at h
      · rename_i hc
        cases h
        obtain ⟨xs, n, _, hxe, hlen, hxl, hf⟩ := DataW.trod_struct ht hx
        have hw : ∀ (i : Nat) (fd : Field) y, fs[i]? = some fd → xs[i]? = some y → (y.1.weights P fd.type).all (· ≤ reachBytes) = true := by
          intro i fd y h2 h3
          rw [List.all_eq_true] at hsz ⊢
          intro k hk
          refine hsz k ?_
          rw [hxe]
          simp only [DataW.weights, ht]
          exact DataW.weights_mem_each (j := i) (t := fd.type) (d := y.1) (by simp [h2]) (by simp [h3]) k hk
        have := shp_fields (g := shapesOf P f) (n := n) (fun t ss cs x h1 h2 h3 => shp_trod f t ss n cs x h1 h2 h3) fs.toList 0 ss cs h1 (by omega) (fun fd hm => by
          obtain ⟨i, hi, he⟩ := List.getElem_of_mem hm
          have hi' : i < fs.size := by simpa using hi
          have hfs : fs[i]? = some fd := by rw [Array.getElem?_eq_getElem hi', ← he]; simp
          have := hf i fd hfs
          have hx2 : xs[i]? = some (xs[i]'(by omega)) := List.getElem?_eq_getElem (by omega)
          rw [hx2] at this
          exact ⟨_, this, hw i fd _ hfs hx2⟩)
        simpa using this
      · cases h
    · simp only [Option.map_eq_some_iff] at h
      obtain ⟨ks, h1, rfl⟩ := h
      exact Shp.lits (flat_trod (f + 1) t ks fuel cs x h1 hx)

/-- A struct with slices in it, by value. -/
theorem open_shape {r : Reach} {b0 : Nat} {ts : List TypeId} {ds : List (DataW H)} {t : TypeId} {v : Value} {d : DataW H} {p : List MemPlace} {ss : List CS} (f : Nat) (hk : shapesOf P f t = some ss)
    (hagg : (match P.underlying t with | some (.struct _) | some (.array _ _) => true | _ => false) = true)
    (hv : Value.okWide P w r b0 t v) (h : DataW.Trod enc P w 0 (fun _ => true) held t v d p)
    (hsz : (DataW.weightsEach P ts ds).all (· ≤ reachBytes) = true) (j : Nat) (ht : ts[j]? = some t) (hd : ds[j]? = some d) : ∃ cs, v = .agg cs ∧ Shp w ss cs.toList := by
  obtain ⟨cs, rfl⟩ : ∃ cs, v = .agg cs := by
    unfold Value.okWide at hv
    split at hv
    · obtain ⟨cs, h, _⟩ := hv; exact ⟨cs, h⟩
    · obtain ⟨cs, h, _⟩ := hv; exact ⟨cs, h⟩
    · split at hagg
      · simp_all
      · simp_all
      · cases hagg
  obtain ⟨fuel, hf⟩ := h
  refine ⟨cs, rfl, shp_trod f t ss fuel _ _ hk (by simpa [Value.cells] using hf) ?_⟩
  rw [List.all_eq_true] at hsz ⊢
  exact fun k hk => hsz k (DataW.weights_mem_each ht hd k hk)
end
end Go.Proofs.Ytpfmjocpgnoepaa
