/- Contracts of porpoiselaw05's helpers: made, real, do, ran, awake. -/
import Derived.Test.YtikocninbbkgdaaRef05b
namespace Go.Proofs.Ytikocninbbkgdaa
set_option linter.unusedVariables false
open Go.ChangeShapes Go.WideShapes Go.ChangeAt Go.RowKit

/-- Whether one more gets a permit, and who holds them then. -/
def acc1 (most : Nat) (h : Hol) (L : List Hol) : Bool := decide (L.length < most) && !decide (h ∈ L)
def ins1 (most : Nat) (h : Hol) (L : List Hol) : List Hol := if acc1 most h L then insH h L else L
theorem acc1_yes {most : Nat} {h : Hol} {L : List Hol} (hc : acc1 most h L = true) : L.length < most ∧ h ∉ L := by simpa [acc1] using hc
theorem acc1_no {most : Nat} {h : Hol} {L : List Hol} (hc : acc1 most h L = false) : ¬ L.length < most ∨ h ∈ L := by
  by_cases h1 : L.length < most
  · by_cases h2 : h ∈ L
    · exact .inr h2
    · simp [acc1, h1, h2] at hc
  · exact .inl h1
theorem take_all (b m most : Nat) (L : List Hol) (x y : Int) (w : World) (h : Prm w b m most L) (hx : wfH (x, y)) :
    Calls Try.prog 21 #[.pointer (some ⟨b, 0, none⟩), .agg #[.int .i64 x, .int .i64 y]] w fun r w' => r = .returned (.bool (acc1 most (x, y) L)) ∧ Frm (· = m) w w' ∧ Prm w' b m most (ins1 most (x, y) L) := by
  cases hc : acc1 most (x, y) L
  · refine (take_no b m most L x y w h hx (acc1_no hc)).mono ?_
    rintro r w' ⟨rfl, hb⟩
    exact ⟨rfl, Frm.of_below hb, by rw [ins1, hc]; exact h.below hb⟩
  · refine (take_yes b m most L x y w h hx (acc1_yes hc).1 (acc1_yes hc).2).mono ?_
    rintro r w' ⟨rfl, hf, hp⟩
    exact ⟨rfl, hf, by rw [ins1, hc]; exact hp⟩
theorem free_all (b m most : Nat) (L : List Hol) (x y : Int) (w : World) (h : Prm w b m most L) (hx : wfH (x, y)) :
    Calls Try.prog 22 #[.pointer (some ⟨b, 0, none⟩), .agg #[.int .i64 x, .int .i64 y]] w fun r w' => r = .returned (.bool (decide ((x, y) ∈ L))) ∧ Frm (· = m) w w' ∧ Prm w' b m most (outH (x, y) L) := by
  by_cases hc : (x, y) ∈ L
  · refine (free_yes b m most L x y w h hx hc).mono ?_
    rintro r w' ⟨rfl, hf, hp⟩
    exact ⟨ret_bool (by simp [hc]), hf, hp⟩
  · refine (free_no b m most L x y w h hx hc).mono ?_
    rintro r w' ⟨rfl, hb⟩
    exact ⟨ret_bool (by simp [hc]), Frm.of_below hb, by rw [outH_not hc]; exact h.below hb⟩
theorem rtake_all (base : Nat) (v : Value) (most : Nat) (x y : Int) (V : List Hol) (w : World) (own : RefR w base v V) (hbase : base ≤ w.heap.size) (hwf : ∀ h ∈ V, wfH h) (hx : wfH (x, y)) (hn : V.length ≤ 1000) :
    Calls Try.prog 23 #[v, .int .i64 most, .agg #[.int .i64 x, .int .i64 y]] w fun r w' => ∃ v', r = .returned (.tuple #[v', .bool (acc1 most (x, y) V)]) ∧ RefR w' base v' (ins1 most (x, y) V) ∧ Below w.heap.size w w' := by
  cases hc : acc1 most (x, y) V
  · obtain ⟨A, n, c, rfl, hr, hl, _, _⟩ := own.row'
    refine (rtake_no A n c most x y V w hr hwf hx ((acc1_no hc).imp (fun a => by have := hl.out; omega) id)).mono ?_
    rintro r w' ⟨rfl, hb⟩
    exact ⟨_, rfl, by rw [ins1, hc]; exact own.below hb, hb⟩
  · refine (rtake_yes base v most x y V w own hwf hx hn (by have := (acc1_yes hc).1; omega) (acc1_yes hc).2).mono ?_
    rintro r w' ⟨v', rfl, ho, hb⟩
    exact ⟨v', rfl, by rw [ins1, hc]; exact ho.mono hbase, hb⟩
theorem rfree_all (base : Nat) (v : Value) (x y : Int) (V : List Hol) (w : World) (own : RefR w base v V) (hbase : base ≤ w.heap.size) (hwf : ∀ h ∈ V, wfH h) (hx : wfH (x, y)) (hn : V.length ≤ 1000) (hd : V.Nodup) :
    Calls Try.prog 24 #[v, .agg #[.int .i64 x, .int .i64 y]] w fun r w' => ∃ v', r = .returned (.tuple #[v', .bool (decide ((x, y) ∈ V))]) ∧ RefR w' base v' (outH (x, y) V) ∧ Below w.heap.size w w' := by
  obtain ⟨A, n, c, rfl, hr, hl, _, _⟩ := own.row'
  refine (rfree_any A n c x y V w hr hwf hx (by have := hl.out; omega) hd).mono ?_
  rintro r w' ⟨v', rfl, ho, hb⟩
  exact ⟨v', rfl, ho.mono hbase, hb⟩

theorem made_any (x y : Int) (w : World) : Calls Try.prog 18 #[.agg #[.int .i64 x, .int .i64 y]] w fun r w' => r = .returned (.agg #[.int .i64 x, .int .i64 y]) ∧ Below w.heap.size w w' := by
  have HB : Hid (Below w.heap.size w ((w.alloc (robj (x, y))).alloc (hobj (x, y)))) := Lib.hid (((Below.refl _ _).alloc (Nat.le_refl _) _).alloc (by simp) _)
  go_enter Try.func18, Try.ntmps18
  go_wp2
  refine bodyPost_ret (v := .agg #[.int .i64 x, .int .i64 y]) (by simp [results, Try.results18, go_sem]; done) rfl ?_
  exact ⟨rfl, HB.out⟩

set_option maxHeartbeats 1000000 in
theorem real_any (A : Option Addr) (n c : Nat) (V : List Hol) (w : World) (hr : RowR hrec w A n V) (hn : n ≤ 1000) :
    Calls Try.prog 13 #[.slice A n c] w fun r w' => ∃ v, r = .returned v ∧ RefR w' w.heap.size v V ∧ Below w.heap.size w w' := by
  have HR := Lib.hid hr
  have HV := Lib.hid hr.1
  clear hr
  go_enter Try.func13, Try.ntmps13
  go_wp2
  go_loopg [3, 4] n (fun k v3 v4 wr => ∃ j : Nat, j + k = n ∧ v4 = .int .i64 j ∧ RefR wr w.heap.size v3 (V.take j) ∧ Below w.heap.size w wr)
  case atStart => exact ⟨0, by omega, rfl, OwnR.nil _ _ _, Below.refl _ _⟩
  case round =>
    obtain ⟨j, hj, rfl, hi, hbl⟩ := hrel
    have HJ := Lib.hid hj
    have HI := Lib.hid hi
    have HBL := Lib.hid hbl
    clear hj
    by_cases hlt : j < n
    · have hlt' : (j : Int) < n := by omega
      obtain ⟨b, off, z1, z2, rfl, hz, q0, q1⟩ := (HR.out.later hbl).two hlt
      have HZ := Lib.hid hz
      clear hz hi hbl
      have own1 : RefR (wr.alloc (robj (z1, z2))).drew w.heap.size _ (V.take j) := (HI.out.alloc (robj (z1, z2))).ali (drew_ali _)
      have src1 : RowR hrec (wr.alloc (robj (z1, z2))).drew (some ⟨wr.heap.size, 0, none⟩) 1 [(z1, z2)] := (RowR.one (R := hrec) wr ((z1, z2) : Hol) 24 (cs := #[.int .i64 z1, .int .i64 z2]) rfl).ali (drew_ali _)
      have hb1 : Below w.heap.size w (wr.alloc (robj (z1, z2))).drew := (HBL.out.alloc HBL.out.size (robj (z1, z2))).drew
      have OWN1 := Lib.hid own1
      have SRC1 := Lib.hid src1
      have HB1 := Lib.hid hb1
      have LT : Hid ((V.take j).length ≤ 1000) := Lib.hid (by rw [List.length_take]; omega)
      obtain ⟨i0, hi0, hz0, hz1, hz2⟩ := info_parts ref_info
      clear own1 src1 hb1
      go_wp2
      go_region_law (first
        | (refine appR_step (P := Try.prog) (R := hrec) rfl (.tmp 11) (.tmp 23) rfl ref_slice hi0 hz0 hz1 hz2 rfl (by decide) (base := w.heap.size) rfl rfl OWN1.out SRC1.out (by have := LT.out; omega) HB1.out.size ?_
           intro v' w' own' gr' _
           have OWN := Lib.hid own'
           have GR := Lib.hid gr'
           clear own' gr'))
      all_goals (
        go_wp2
        go_roundg (n - (j + 1))
        (case measure => have := HJ.out; omega)
        (case rel =>
          refine ⟨j + 1, by omega, by simp, ?_, ?_⟩
          · rw [take_succ HZ.out]
            exact OWN.out
          · exact HB1.out.trans (grown_below GR.out HB1.out.size OWN1.out.low)))
    · have hlt' : ¬ (j : Int) < n := by omega
      have hall : V.take j = V := List.take_of_length_le (by rw [HV.out]; omega)
      rw [hall] at HI
      clear hi hbl hall
      go_wp2
      go_ret
      exact ⟨_, rfl, HI.out, HBL.out⟩

/-- A set that was made since w0; of what was there ahead of it nothing has turned. -/
structure Ow (w0 w : World) (b m most : Nat) (L : List Hol) : Prop where
  prm : Prm w b m most L
  low : Below w0.heap.size w0 w
  atm : w0.heap.size ≤ m
section
variable {w0 w w' : World} {b m most : Nat} {L L' : List Hol} {v : Value}
theorem Ow.after (h : Ow w0 w b m most L) (hf : Frm (· = m) w w') (hr : Prm w' b m most L') : Ow w0 w' b m most L' := ⟨hr, h.low.trans (hf.below h.low.size (fun j hj e => by have := h.atm; omega)), h.atm⟩
theorem Ow.below (h : Ow w0 w b m most L) (hb : Below w.heap.size w w') : Ow w0 w' b m most L := ⟨h.prm.below hb, h.low.trans (hb.mono h.low.size), h.atm⟩
theorem Ow.ali (h : Ow w0 w b m most L) (ha : Ali w w') : Ow w0 w' b m most L := h.below (ali_below ha)
/-- Rows beside a set stay as they are. -/
theorem Prm.rows {α : Type} {R : Rec α} {base : Nat} {e : TypeId} {V : List α} (h : Prm w b m most L) (hf : Frm (· = m) w w') (hv : OwnR R w base e v V) : OwnR R w' base e v V :=
  hv.frm hf (fun j hj cs hc => h.other hc hj)
end
theorem ow_new (w0 w : World) (most : Nat) (h : most ≤ 8) (hb : Below w0.heap.size w0 w) : Calls Try.prog 10 #[.int .i64 most] w fun r w' => ∃ b, r = .returned (.pointer (some ⟨b, 0, none⟩)) ∧ ∃ m, Ow w0 w' b m most [] ∧ Below w.heap.size w w' := by
  refine (new_prm most w h).mono ?_
  rintro r w' ⟨b, rfl, m, hp, hb', h1, h2⟩
  exact ⟨b, rfl, m, ⟨hp, hb.trans (hb'.mono hb.size), Nat.le_trans hb.size h2⟩, hb'⟩

abbrev dobj (kd x y : Int) : Obj := .cells #[.int .i64 kd, .int .i64 x, .int .i64 y] 32
theorem dcells {w : World} {j : Nat} {kd x y : Int} (h : w.heap[j]? = some (dobj kd x y)) : w.cell? ⟨j, 0, none⟩ = some (.int .i64 kd) ∧ w.cell? ⟨j, 1, none⟩ = some (.int .i64 x) ∧ w.cell? ⟨j, 2, none⟩ = some (.int .i64 y) := ⟨by rw [cell_of h]; rfl, by rw [cell_of h]; rfl, by rw [cell_of h]; rfl⟩
/-- What a deed leaves, and what it tells. -/
def step1 (most : Nat) (kd : Int) (h : Hol) (L : List Hol) : List Hol := if kd = 1 then ins1 most h L else outH h L
def told1 (most : Nat) (kd : Int) (h : Hol) (L : List Hol) : Bool := if kd = 1 then acc1 most h L else decide (h ∈ L)
theorem step1_rise {most : Nat} {kd : Int} {h : Hol} {L : List Hol} (hL : Rise L) : Rise (step1 most kd h L) := by
  unfold step1 ins1
  split
  · cases hc : acc1 most h L
    · exact hL
    · exact rise_insH hL (acc1_yes hc).2
  · exact rise_outH hL
set_option maxHeartbeats 4000000 in
theorem do_any (w0 : World) (b m most : Nat) (kd x y : Int) (L V : List Hol) (v : Value) (w : World) (h : Ow w0 w b m most L) (hv : RefR w w0.heap.size v V) (hV : Rise V) (hwf : ∀ z ∈ V, wfH z) (hn : V.length ≤ 1000) (hx : wfH (x, y)) :
    Calls Try.prog 11 #[.pointer (some ⟨b, 0, none⟩), v, .int .i64 most, .agg #[.int .i64 kd, .int .i64 x, .int .i64 y]] w fun r w' => ∃ v' t, r = .returned (.tuple #[v', .bool t]) ∧ t = (told1 most kd (x, y) L == told1 most kd (x, y) V) ∧ Ow w0 w' b m most (step1 most kd (x, y) L) ∧ RefR w' w0.heap.size v' (step1 most kd (x, y) V) := by
  have h1 := h.below (below_alloc w (dobj kd x y))
  have hv1 := hv.below (below_alloc w (dobj kd x y))
  have hd1 := heap_alloc_at w (dobj kd x y)
  generalize hW : w.alloc (dobj kd x y) = w1 at *
  obtain ⟨d0, d1, d2⟩ := dcells hd1
  have H1 := Lib.hid h1
  have V1 := Lib.hid hv1
  have D1 := Lib.hid hd1
  have HR := Lib.hid hV
  have HWF := Lib.hid hwf
  clear h hv h1 hv1 hd1 hV hwf
  by_cases k1 : kd = 1
  · subst k1
    go_enter Try.func11, Try.ntmps11
    go_wp2_with fail
    refine (made_any x y w1).mono ?_
    clear d0 d1 d2
    rintro r w2 ⟨rfl, hb2⟩
    have H2 := Lib.hid (H1.out.below hb2)
    have V2 := Lib.hid (V1.out.below hb2)
    have D2 := Lib.hid (kb_below D1.out hb2)
    clear hb2
    go_wp2_with fail
    refine (take_all b m most L x y w2 H2.out.prm hx).mono ?_
    rintro r w3 ⟨rfl, hf, hp⟩
    obtain ⟨d0, d1, d2⟩ := dcells (H2.out.prm.kept hf D2.out)
    have H3 := Lib.hid (H2.out.after hf hp)
    have V3 := Lib.hid (H2.out.prm.rows hf V2.out)
    clear hf hp
    have hrt := rtake_all w0.heap.size v most x y V w3 V3.out H3.out.low.size HWF.out hx hn
    generalize ht : acc1 most (x, y) L = t
    generalize ht' : acc1 most (x, y) V = t' at hrt
    have HT := Lib.hid ht
    have HT' := Lib.hid ht'
    clear ht ht'
    go_wp2_with fail
    refine hrt.mono ?_
    clear hrt d0 d1 d2
    rintro r w4 ⟨v', rfl, ho, hb⟩
    have H4 := Lib.hid (H3.out.below hb)
    have V4 := Lib.hid ho
    clear ho hb
    go_wp2
    go_ret2
    refine ⟨_, _, rfl, ?_, H4.out, V4.out⟩
    show _ = (acc1 most (x, y) L == acc1 most (x, y) V)
    rw [HT.out, HT'.out]
  · have k1' : (kd == 1) = false := by simp [k1]
    have hst : ∀ K, step1 most kd (x, y) K = outH (x, y) K := fun K => by rw [step1, if_neg k1]
    have hto : ∀ K, told1 most kd (x, y) K = decide ((x, y) ∈ K) := fun K => by rw [told1, if_neg k1]
    rw [hst, hst, hto, hto]
    clear k1 hst hto
    go_enter Try.func11, Try.ntmps11
    go_wp2_with fail
    refine (made_any x y w1).mono ?_
    clear d0 d1 d2
    rintro r w2 ⟨rfl, hb2⟩
    have H2 := Lib.hid (H1.out.below hb2)
    have V2 := Lib.hid (V1.out.below hb2)
    have D2 := Lib.hid (kb_below D1.out hb2)
    clear hb2
    go_wp2_with fail
    refine (free_all b m most L x y w2 H2.out.prm hx).mono ?_
    rintro r w3 ⟨rfl, hf, hp⟩
    obtain ⟨d0, d1, d2⟩ := dcells (H2.out.prm.kept hf D2.out)
    have H3 := Lib.hid (H2.out.after hf hp)
    have V3 := Lib.hid (H2.out.prm.rows hf V2.out)
    clear hf hp
    have hrt := rfree_all w0.heap.size v x y V w3 V3.out H3.out.low.size HWF.out hx hn HR.out.nodup
    generalize ht : decide ((x, y) ∈ L) = t
    generalize ht' : decide ((x, y) ∈ V) = t' at hrt
    have HT := Lib.hid ht
    have HT' := Lib.hid ht'
    clear ht ht'
    go_wp2_with fail
    refine hrt.mono ?_
    clear hrt d0 d1 d2
    rintro r w4 ⟨v', rfl, ho, hb⟩
    have H4 := Lib.hid (H3.out.below hb)
    have V4 := Lib.hid ho
    clear ho hb
    go_wp2
    go_ret2
    refine ⟨_, _, rfl, ?_, H4.out, V4.out⟩
    rw [HT.out, HT'.out]

/-- A set, and the document's list, with the same holders. -/
structure Sy (w0 w : World) (b m most : Nat) (L : List Hol) (v : Value) : Prop where
  ow : Ow w0 w b m most L
  row : RefR w w0.heap.size v L
theorem do_sy (w0 : World) (b m most : Nat) (kd x y : Int) (L : List Hol) (v : Value) (w : World) (h : Sy w0 w b m most L v) (hx : wfH (x, y)) :
    Calls Try.prog 11 #[.pointer (some ⟨b, 0, none⟩), v, .int .i64 most, .agg #[.int .i64 kd, .int .i64 x, .int .i64 y]] w fun r w' => ∃ v', r = .returned (.tuple #[v', .bool true]) ∧ ∃ L', Sy w0 w' b m most L' v' := by
  refine (do_any w0 b m most kd x y L L v w h.ow h.row h.ow.prm.rise h.ow.prm.wf (by have := h.ow.prm.le; have := h.ow.prm.le8; omega) hx).mono ?_
  rintro r w' ⟨v', t, rfl, ht, ho, hr⟩
  refine ⟨v', ?_, _, ho, hr⟩
  rw [ht]
  simp
theorem deed_at {w : World} {a : Option Addr} {len cap : Nat} {D : List (List Value)} (h : SliceIn w [.int .i64, .int .i64, .int .i64] 24 a len cap D) {i : Nat} (hi : i < len) :
    ∃ blk off kd x y, a = some ⟨blk, off, none⟩ ∧ w.cell? ⟨blk, off + i * 3, none⟩ = some (.int .i64 kd) ∧ w.cell? ⟨blk, off + i * 3 + 1, none⟩ = some (.int .i64 x) ∧ w.cell? ⟨blk, off + i * 3 + 2, none⟩ = some (.int .i64 y) ∧ wfH (x, y) := by
  obtain ⟨h1, h2, _, _, _, h6⟩ := h
  rcases h6 with h6 | ⟨blk, off, ha, _, hc⟩
  · omega
  · have hr : D[i]? = some (D[i]'(by omega)) := List.getElem?_eq_getElem (by omega)
    have hf := h2 _ (List.getElem_mem (by omega) : D[i]'(by omega) ∈ D)
    generalize D[i]'(by omega) = row at hr hf
    cases row with
    | nil => exact hf.elim
    | cons c0 row =>
      cases row with
      | nil => exact hf.2.elim
      | cons c1 row =>
        cases row with
        | nil => exact hf.2.2.elim
        | cons c2 row =>
          obtain ⟨⟨kd, rfl, _⟩, ⟨x, rfl, hx⟩, ⟨y, rfl, hy⟩, _⟩ := hf
          refine ⟨blk, off, kd, x, y, ha, ?_, ?_, ?_, bounds_i64 hx, bounds_i64 hy⟩
          · simpa using hc i 0 _ _ hr rfl
          · have := hc i 1 _ _ hr rfl
            simpa [Nat.add_assoc] using this
          · have := hc i 2 _ _ hr rfl
            simpa [Nat.add_assoc] using this

set_option maxHeartbeats 2000000 in
theorem ran_any (w0 : World) (a : Option Addr) (l k : Nat) (D : List (List Value)) (w : World) (hs : SliceIn w0 [.int .i64, .int .i64, .int .i64] 24 a l k D) (hb : Below w0.heap.size w0 w) :
    Calls Try.prog 20 #[.slice a l k] w fun r w' => ∃ b, r = .returned (.pointer (some ⟨b, 0, none⟩)) ∧ ∃ m L, Ow w0 w' b m 4 L := by
  obtain ⟨n, hn⟩ : ∃ n, (if 100 < l then 100 else l) = n := ⟨_, rfl⟩
  have hn' : n ≤ l ∧ n ≤ 100 ∧ (n < 100 → n = l) := by rw [← hn]; split <;> omega
  have hml := hs.2.2.2.2.1
  have hlk := hs.2.2.1
  unfold maxLen at hml
  have HS := Lib.hid hs
  have HB := Lib.hid hb
  clear hs hb hn
  go_enter Try.func20, Try.ntmps20
  go_wp2_with fail
  refine (ow_new w0 w 4 (by omega) HB.out).mono ?_
  rintro r w1 ⟨b, rfl, m, h1, _⟩
  have H1 := Lib.hid h1
  clear h1
  go_wp2
  go_loopg [4, 5] n (fun g v4 v5 wr => ∃ (i : Nat) (L : List Hol), i + g = n ∧ v5 = .int .i64 i ∧ Sy w0 wr b m 4 L v4)
  case atStart => exact ⟨0, [], by omega, rfl, H1.out, OwnR.nil _ _ _⟩
  case round =>
    obtain ⟨i, L, hg, rfl, hsy⟩ := hrel
    have G := Lib.hid hg
    have SY := Lib.hid hsy
    clear hg hsy
    by_cases hin : i < n
    · have hi1 : (i : Int) < l := by omega
      have hi2 : (i : Int) < 100 := by omega
      obtain ⟨blk, off, kd, x, y, rfl, q0, q1, q2, hx⟩ := deed_at HS.out (i := i) (by omega)
      have p0 := cell_later SY.out.ow.low q0
      have p1 := cell_later SY.out.ow.low q1
      have p2 := cell_later SY.out.ow.low q2
      clear q0 q1 q2
      go_wp2_with fail
      refine (do_sy w0 b m 4 kd x y L _ wr SY.out hx).mono ?_
      rintro r w2 ⟨v', rfl, L', h2⟩
      have H2 := Lib.hid h2
      clear h2 p0 p1 p2
      go_wp2
      go_roundg (n - (i + 1))
      case measure => have := G.out; omega
      case rel => exact ⟨i + 1, L', by omega, by simp, H2.out⟩
    · by_cases hl : i < l
      · have hi1 : (i : Int) < l := by omega
        have hi2 : ¬ (i : Int) < 100 := by omega
        go_wp2
        go_ret
        exact ⟨_, rfl, _, _, SY.out.ow⟩
      · have hi1 : ¬ (i : Int) < l := by omega
        go_wp2
        go_ret
        exact ⟨_, rfl, _, _, SY.out.ow⟩

set_option maxHeartbeats 2000000 in
theorem awake_any (w : World) : Calls Try.prog 9 #[] w fun r w' => r = .returned (.bool true) ∧ Below w.heap.size w w' := by
  have n64 : ∀ a b : Int, 0 ≤ a → a ≤ 100 → 0 ≤ b → b ≤ 100 → wfH (a, b) := fun a b h h' k k' => ⟨⟨by show -9223372036854775808 ≤ a; omega, by show a ≤ 9223372036854775807; omega⟩, ⟨by show -9223372036854775808 ≤ b; omega, by show b ≤ 9223372036854775807; omega⟩⟩
  go_enter Try.func9, Try.ntmps9
  go_wp2_with fail
  refine (ow_new w w 1 (by omega) (Below.refl _ _)).mono ?_
  rintro r w1 ⟨b, rfl, m, h1, _⟩
  have H1 := Lib.hid h1
  clear h1
  have ht := take_all b m 1 [] 1 0 w1 H1.out.prm (n64 _ _ (by omega) (by omega) (by omega) (by omega))
  rw [show acc1 1 (1, 0) [] = true from rfl, show ins1 1 (1, 0) [] = [(1, 0)] from rfl] at ht
  go_wp2_with fail
  refine ht.mono ?_
  clear ht
  rintro r w2 ⟨rfl, hf, hp⟩
  have H2 := Lib.hid (H1.out.after hf hp)
  clear hf hp
  have ht := take_all b m 1 [(1, 0)] 2 0 w2 H2.out.prm (n64 _ _ (by omega) (by omega) (by omega) (by omega))
  rw [show acc1 1 (2, 0) [(1, 0)] = false from rfl, show ins1 1 (2, 0) [(1, 0)] = [(1, 0)] from rfl] at ht
  go_wp2_with fail
  refine ht.mono ?_
  clear ht
  rintro r w3 ⟨rfl, hf, hp⟩
  have H3 := Lib.hid (H2.out.after hf hp)
  clear hf hp
  have ht := free_all b m 1 [(1, 0)] 1 0 w3 H3.out.prm (n64 _ _ (by omega) (by omega) (by omega) (by omega))
  rw [show decide (((1, 0) : Hol) ∈ [((1, 0) : Hol)]) = true from rfl, show outH (1, 0) [(1, 0)] = [] from rfl] at ht
  go_wp2_with fail
  refine ht.mono ?_
  clear ht
  rintro r w4 ⟨rfl, hf, hp⟩
  have H4 := Lib.hid (H3.out.after hf hp)
  clear hf hp
  have ht := take_all b m 1 [] 2 1 w4 H4.out.prm (n64 _ _ (by omega) (by omega) (by omega) (by omega))
  rw [show acc1 1 (2, 1) [] = true from rfl, show ins1 1 (2, 1) [] = [(2, 1)] from rfl] at ht
  go_wp2_with fail
  refine ht.mono ?_
  clear ht
  rintro r w5 ⟨rfl, hf, hp⟩
  have H5 := Lib.hid (H4.out.after hf hp)
  clear hf hp
  go_wp2_with fail
  refine (used_prm b m 1 _ w5 H5.out.prm).mono ?_
  rintro r w6 ⟨rfl, rfl⟩
  have ht := room_prm b m 1 _ _ H5.out.prm
  rw [show decide ([((2, 1) : Hol)].length < 1) = false from rfl] at ht
  go_wp2_with fail
  refine ht.mono ?_
  clear ht
  rintro r w7 ⟨rfl, ha⟩
  have H7 := Lib.hid (H5.out.ali ha)
  clear ha
  have ht := holds_prm b m 1 _ 2 1 w7 H7.out.prm (n64 _ _ (by omega) (by omega) (by omega) (by omega))
  rw [show decide (((2, 1) : Hol) ∈ [((2, 1) : Hol)]) = true from rfl] at ht
  go_wp2_with fail
  refine ht.mono ?_
  clear ht
  rintro r w8 ⟨rfl, hb⟩
  have H8 := Lib.hid (H7.out.below hb)
  clear hb
  go_wp2
  go_ret
  exact ⟨rfl, H8.out.low⟩
end Go.Proofs.Ytikocninbbkgdaa
