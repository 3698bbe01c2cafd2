/- Layer 11: a log made since a world (OwL); awake, ran. -/
import Derived.Test.YtgbhkfefdeahdaaLatEm
import Derived.Test.YtgbhkfefdeahdaaOutsL
import Derived.Deep.LoopGhost
namespace Go.Proofs.Ytgbhkfefdeahdaa
set_option linter.unusedVariables false
open Go.ChangeShapes Go.WideShapes Go.ChangeAt Go.RowKit

/-- A log that was made since w0; of what was there ahead of it nothing has turned. -/
structure OwL (w0 w : World) (b m : Nat) (v : Value) (L : List Ot) : Prop where
  lat : Lat w w0.heap.size b m v L
  low : Below w0.heap.size w0 w
section
variable {w0 w w' : World} {b m : Nat} {v v' : Value} {L L' : List Ot}
theorem OwL.below (h : OwL w0 w b m v L) (hb : Below w.heap.size w w') : OwL w0 w' b m v L := ⟨h.lat.below hb, h.low.trans (hb.mono h.low.size)⟩
theorem OwL.ali (h : OwL w0 w b m v L) (ha : Ali w w') : OwL w0 w' b m v L := h.below (ali_below ha)
theorem OwL.after (h : OwL w0 w b m v L) (hf : Frm (LatF b m v) w w') (hl : Lat w' w0.heap.size b m v' L') : OwL w0 w' b m v' L' :=
  ⟨hl, h.low.trans (hf.below h.low.size (fun j hj e => by have := (h.lat.low j e).1; omega))⟩
/-- Rows beside it stay. -/
theorem OwL.beside {base : Nat} {u : Value} {V : List Ot} (hf : Frm (LatF b m v) w w') (hu : OutR w base u V) (hn : ∀ g, u.ownBlock = some g → ¬ LatF b m v g) : OutR w' base u V := hu.apart hf hn
end
theorem ol_new (w0 w : World) (hb : Below w0.heap.size w0 w) : Calls Try.prog 10 #[] w fun r w' => ∃ b, r = .returned (.pointer (some ⟨b, 0, none⟩)) ∧ ∃ m, OwL w0 w' b m (.slice none 0 0) [] ∧ Below w.heap.size w w' := by
  refine (new_lat w0.heap.size w hb.size).mono ?_
  rintro r w' ⟨b, rfl, m, hl, hb'⟩
  exact ⟨b, rfl, m, ⟨hl, hb.trans (hb'.mono hb.size)⟩, hb'⟩
/-- What was emitted, one by one. -/
def emits (L V : List Ot) : List Ot := V.foldl emit L
theorem emits_snoc (L V : List Ot) (x : Ot) : emits L (V ++ [x]) = emit (emits L V) x := by simp [emits]
theorem emits_len : ∀ (V L : List Ot), (emits L V).length ≤ L.length + V.length
  | [], L => by simp [emits]
  | x :: V, L => by
    have h1 := emits_len V (emit L x)
    have h2 := emit_len L x
    simp only [emits, List.foldl_cons, List.length_cons] at *
    omega
theorem take_next' {V : List Ot} {j : Nat} {z : Ot} (h : V[j]? = some z) : V.take (j + 1) = V.take j ++ [z] := by
  obtain ⟨hlt, he⟩ := List.getElem?_eq_some_iff.1 h
  rw [List.take_succ_eq_append_getElem hlt, he]

/-- How far a loop over at most a hundred goes. -/
theorem cap_at (l : Nat) (V : List Ot) (hV : V.length = l) : ∃ n, n ≤ l ∧ n ≤ 100 ∧ (n < 100 → n = l) ∧ Hid (V.take n = V.take 100) := by
  refine ⟨if 100 < l then 100 else l, by split <;> omega, by split <;> omega, by split <;> omega, Lib.hid ?_⟩
  split
  · rfl
  · rw [List.take_of_length_le (by omega), List.take_of_length_le (by omega)]
theorem emits_take_len (V : List Ot) (i : Nat) : (emits [] (V.take i)).length ≤ i := by
  have := emits_len (V.take i) []
  rw [List.length_take] at this
  simp at this
  omega
set_option maxRecDepth 100000 in
set_option maxHeartbeats 1000000 in
theorem ran_any (a : Option Addr) (l k : Nat) (V : List Ot) (w : World) (hs : RowR orec w a l V) (hf : ∀ x ∈ V, x.Fits) :
    Calls Try.prog 20 #[.slice a l k] w fun r w' => ∃ b, r = .returned (.pointer (some ⟨b, 0, none⟩)) ∧ ∃ m v, OwL w w' b m v (emits [] (V.take 100)) := by
  obtain ⟨n, hn1, hn2, hn3, HA⟩ := cap_at l V hs.1
  have hml := hs.2.1
  unfold maxLen at hml
  have HS := Lib.hid hs
  have HF := Lib.hid hf
  clear hs hf
  go_enter Try.func20, Try.ntmps20
  go_wp2_with fail
  refine (ol_new w w (Below.refl _ _)).mono ?_
  rintro r w1 ⟨b, rfl, m, h1, _⟩
  have H1 := Lib.hid h1
  clear h1
  go_wp2
  go_loopg [4] n (fun g v4 wr => ∃ (i : Nat) (v : Value), i + g = n ∧ v4 = .int .i64 i ∧ OwL w wr b m v (emits [] (V.take i)))
  case atStart => exact ⟨0, .slice none 0 0, by omega, rfl, H1.out⟩
  case round =>
    obtain ⟨i, v, hg, rfl, hol⟩ := hrel
    have G := Lib.hid hg
    have OL := Lib.hid hol
    clear hg hol
    by_cases hin : i < n
    · have hi1 : (i : Int) < l := by omega
      have hi2 : (i : Int) < 100 := by omega
      obtain ⟨rb, off, x, rfl, hx, hrg⟩ := (HS.out.later OL.out.low).out (i := i) (by omega)
      have RG := Lib.hid hrg
      have HX := Lib.hid hx
      have hfx := HF.out x (List.mem_of_getElem? hx)
      have hem := emit_lat w.heap.size b m v _ x wr OL.out.lat hfx (by have := emits_take_len V i; omega) OL.out.low.size
      generalize adds (emits [] (V.take i)) x = t at hem
      have HEM := Lib.hid hem
      clear hrg hx hfx hem
      go_wp2_with (first
        | (refine wpList_load_out rfl _ rfl rb (off + i * 5) rfl x RG.out ?_)
        | (go_at_call 11; refine HEM.out.mono ?_; rintro r w2 ⟨rfl, v2, l2, f2, _⟩; have O2 := Lib.hid (OL.out.after f2 l2); clear l2 f2))
      go_roundg (n - (i + 1))
      case measure => have := G.out; omega
      case rel =>
        refine ⟨i + 1, v2, by omega, by simp, ?_⟩
        rw [take_next' HX.out, emits_snoc]
        exact O2.out
    · have hi : i = n := by have := G.out; omega
      subst hi
      by_cases hl : i < l
      · have hi1 : (i : Int) < l := by omega
        have hi2 : ¬ (i : Int) < 100 := by omega
        go_wp2
        go_ret
        exact ⟨_, rfl, _, _, by rw [← HA.out]; exact OL.out⟩
      · have hi1 : ¬ (i : Int) < l := by omega
        go_wp2
        go_ret
        exact ⟨_, rfl, _, _, by rw [← HA.out]; exact OL.out⟩

/-- awake's outcomes. -/
def awk : Ot := ⟨5, 1, 0, 7, 0⟩
def awk' : Ot := ⟨5, 4, 2, 0, 0⟩
set_option maxRecDepth 100000 in
set_option maxHeartbeats 2000000 in
theorem awake_any (w : World) : Calls Try.prog 9 #[] w fun r w' => r = .returned (.bool true) ∧ Below w.heap.size w w' := by
  have fa : awk.Fits := ⟨⟨by decide, by decide⟩, ⟨by decide, by decide⟩, ⟨by decide, by decide⟩, ⟨by decide, by decide⟩, by decide⟩
  have fb : awk'.Fits := ⟨⟨by decide, by decide⟩, ⟨by decide, by decide⟩, ⟨by decide, by decide⟩, ⟨by decide, by decide⟩, by decide⟩
  have FA := Lib.hid fa
  have FB := Lib.hid fb
  clear fa fb
  have he1 : ∀ (b m : Nat) (v : Value) (w1 : World), OwL w w1 b m v [] → Calls Try.prog 11 #[.pointer (some ⟨b, 0, none⟩), .agg #[.int .i64 5, .int .i64 1, .int .i64 0, .int .i64 7, .int .u64 0]] w1 fun r w' => r = .returned (.bool true) ∧ ∃ v', OwL w w' b m v' [awk] := fun b m v w1 h => by
    refine (emit_lat w.heap.size b m v [] awk w1 h.lat FA.out (by simp) h.low.size).mono ?_
    rintro r w2 ⟨rfl, v', hl, hf, _⟩
    exact ⟨rfl, v', h.after hf hl⟩
  have he2 : ∀ (b m : Nat) (v : Value) (w1 : World), OwL w w1 b m v [awk] → Calls Try.prog 11 #[.pointer (some ⟨b, 0, none⟩), .agg #[.int .i64 5, .int .i64 4, .int .i64 2, .int .i64 0, .int .u64 0]] w1 fun r w' => r = .returned (.bool false) ∧ ∃ v', OwL w w' b m v' [awk] := fun b m v w1 h => by
    refine (emit_lat w.heap.size b m v [awk] awk' w1 h.lat FB.out (by simp) h.low.size).mono ?_
    rintro r w2 ⟨rfl, v', hl, hf, _⟩
    exact ⟨rfl, v', h.after hf hl⟩
  have he3 : ∀ (b m : Nat) (v : Value) (w1 : World), OwL w w1 b m v [awk] → Calls Try.prog 13 #[.pointer (some ⟨b, 0, none⟩), .int .i64 5] w1 fun r w' => r = .returned (.tuple #[.agg (aggV awk.vals), .bool true]) ∧ Below w1.heap.size w1 w' := fun b m v w1 h => of_lat w.heap.size b m v [awk] 5 w1 h.lat FA.out.id
  have he5 : ∀ w1, Calls Try.prog 15 #[.agg #[.int .i64 0, .int .i64 4, .int .i64 0, .int .i64 0, .int .u64 0]] w1 fun r w' => r = .returned (.bool false) ∧ Below w1.heap.size w1 w' := fun w1 => may_any ⟨0, 4, 0, 0, 0⟩ w1
  have E1 := Lib.hid he1
  have E2 := Lib.hid he2
  have E3 := Lib.hid he3
  have E5 := Lib.hid he5
  clear he1 he2 he3 he5
  go_enter Try.func9, Try.ntmps9
  go_wp2_with (first
    | (go_at_call 10; refine (ol_new w w (Below.refl _ _)).mono ?_; rintro r w1 ⟨b, rfl, m, h1, _⟩; have H1 := Lib.hid h1; clear h1)
    | (go_at_call 11; refine (E2.out b m v2 w2 H2.out).mono ?_; rintro r w3 ⟨rfl, v3, h3⟩; have H3 := Lib.hid h3; clear h3)
    | (go_at_call 11; refine (E1.out b m _ w1 H1.out).mono ?_; rintro r w2 ⟨rfl, v2, h2⟩; have H2 := Lib.hid h2; clear h2)
    | (go_at_call 13; refine (E3.out b m v3 w3 H3.out).mono ?_; rintro r w4 ⟨rfl, b4⟩; have H4 := Lib.hid (H3.out.below b4); clear b4; obtain ⟨g, hg⟩ : ∃ g, w4.heap.size = g := ⟨_, rfl⟩)
    | (refine wpList_alloc_agg rfl 29 rfl g hg Ot.zero.vals (allocO _) ?_; intro w5 h5 l5 t5; have K5 := Lib.hid h5; have L5 : Hid (Below w4.heap.size w4 w5) := Lib.hid (by rw [hg]; exact l5); clear h5 l5 t5)
    | (refine wpList_store_agg rfl 29 _ _ rfl g Ot.zero.vals awk.vals rfl rfl ?hz rfl (sizeO _) (Ot.ones_vals _) ?_; (case hz => exact K5.out); intro w6 h6 f6 t6;
       have b6 : Below w4.heap.size w4 w6 := L5.out.trans (f6.below L5.out.size (fun j hj e => by omega));
       have H6 := Lib.hid (H4.out.below b6); have d3 : w6.cell? ⟨g, 3, none⟩ = some (.int .i64 7) := vobj_cell h6 rfl; clear h6 f6 t6 b6)
    | (go_at_call 18; refine (all_lat w.heap.size b m v3 [awk] w6 H6.out.lat (by simp)).mono ?_; rintro r w7 ⟨v7, rfl, o7, b7⟩; have H7 := Lib.hid (H6.out.below b7);
       obtain ⟨A7, n7, c7, hv7, _, nl7, _, _⟩ := o7.row'; subst hv7; obtain rfl : n7 = 1 := nl7.out.symm; clear o7 b7)
    | (go_at_call 15; refine (E5.out w7).mono ?_; rintro r w8 ⟨rfl, b8⟩; have H8 := Lib.hid (H7.out.below b8); clear b8))
  go_ret
  exact ⟨rfl, H8.out.low⟩
end Go.Proofs.Ytgbhkfefdeahdaa
