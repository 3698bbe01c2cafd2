/- Contracts of porpoiselaw12: do. -/
import Derived.Test.YtlphahkmibhidaaLaw12
import Derived.Test.YtlphahkmibhidaaRef12b
import Derived.Test.YtlphahkmibhidaaRef12d
namespace Go.Proofs.Ytlphahkmibhidaa
set_option linter.unusedVariables false
open Go.ChangeShapes Go.WideShapes Go.ChangeAt Go.RowKit

/-- What do leaves: the cache and the document's behind the deed; what it may turn. -/
structure Did (w0 w w' : World) (F : Nat → Prop) (b : Nat) (S T : CA) (d : Dd) (Y : RC) : Prop where
  own : ∃ F', OwC w0 w' F' b (S.deed d) ∧ ∀ j, j < w.heap.size → F' j → F j
  ref : Y.Is w' w0.heap.size (T.deed d)
  frm : Frm (Foot w F) w w'
theorem foot_less {w w1 w2 : World} {F F' : Nat → Prop} (hf : Frm (Foot w F) w w1) (hf' : Frm (Foot w1 F') w1 w2) (h : ∀ j, j < w.heap.size → F' j → F j) : Frm (Foot w F) w w2 :=
  hf.trans hf' (fun j hj hc => ⟨h j hj hc.1, fun cs t z ho => by
    by_cases hn : Ours t
    · rcases hn with e | e | e
      · by_cases hF : Foot w F j
        · exact hF.2 cs t z ho
        · have := hf.block j hj hF
          exact hc.2 cs t z (this.trans ho)
      · exact .inl e
      · exact .inr e
    · have := foot_kept hf ho hn
      exact hc.2 cs t z this⟩)
theorem foot_below' {w w1 w2 : World} {F : Nat → Prop} (hf : Frm (Foot w F) w w1) (hb : Below w.heap.size w1 w2) : Frm (Foot w F) w w2 :=
  ⟨hb.os.trans hf.os, hb.tape.trans hf.tape, hb.output.trans hf.output, Nat.le_trans hf.size hb.size, fun j hj hn => (hb.block j hj).trans (hf.block j hj hn)⟩

set_option maxRecDepth 100000 in
set_option maxHeartbeats 2000000 in
theorem do_close (w0 : World) (F : Nat → Prop) (b : Nat) (S T : CA) (X : RC) (d : Dd) (w : World) (h : OwC w0 w F b S) (hX : X.Is w w0.heap.size T) (hd : d.Fits) (hs : S.size ≤ 1000) (ht : T.size ≤ 1000) (h1 : d.kind ≠ 1) (h2 : d.kind ≠ 2) :
    Calls Try.prog 11 #[.pointer (some ⟨b, 0, none⟩), .agg (aggV X.vals), .agg (aggV d.vals)] w fun r w' => ∃ Y : RC, r = .returned (.tuple #[.agg (aggV Y.vals), .bool (S.alike T d)]) ∧ Did w0 w w' F b S T d Y := by
  have hk1 : (d.kind == 1) = false := by simp [h1]
  have hk2 : (d.kind == 2) = false := by simp [h2]
  have hal : S.alike T d = ((S.closed d.k.a : Int) == (T.closed d.k.a : Int)) := by
    simp only [CA.alike, h1, h2, if_false]
    by_cases e : S.closed d.k.a = T.closed d.k.a
    · simp [e]
    · simp [e]; omega
  have e1 : S.deed d = S.close d.k.a := by simp [CA.deed, h1, h2]
  have e2 : T.deed d = T.close d.k.a := by simp [CA.deed, h1, h2]
  obtain ⟨g, hg⟩ : ∃ g, w.heap.size = g := ⟨_, rfl⟩
  obtain ⟨fs, hu⟩ := undX
  have HU := Lib.hid hu
  have HO := Lib.hid h
  have HX := Lib.hid hX
  have HAL := Lib.hid hal
  have E1 := Lib.hid e1
  have E2 := Lib.hid e2
  have HS := Lib.hid hs
  have HTS := Lib.hid ht
  clear hu h hX hal e1 e2 hs ht h1 h2 hd
  go_enter Try.func11, Try.ntmps11
  go_wp2_with (first
    | (refine wpList_box_agg rfl 29 _ rfl g hg X.vals rfl ?_; intro w1 h1 l1 t1)
    | (refine wpList_box_agg rfl 37 _ rfl (g + 1) t1 d.vals rfl ?_; intro w2 h2 l2 t2)
    | (refine wpList_alloc_agg rfl 29 rfl (g + 2) t2 RC.zero.vals (allocX _) ?_; intro w3 h3 l3 t3;
       have B3 : Hid (Below w.heap.size w w3) := Lib.hid (by rw [hg]; exact (l1.trans (l2.mono (by omega))).trans (l3.mono (by omega)));
       have X3 : Hid (w3.heap[g]? = some (vobj 29 X.vals)) := Lib.hid (((l3.block g (by omega)).trans (l2.block g (by omega))).trans h1);
       have D3 : Hid (w3.heap[g + 1]? = some (vobj 37 d.vals)) := Lib.hid ((l3.block (g + 1) (by omega)).trans h2);
       have R3 := Lib.hid h3; have S3 := Lib.hid t3;
       obtain ⟨p0, p1, p2, _⟩ := Dd.range D3.out;
       clear h1 h2 h3 l1 l2 l3 t1 t2 t3)
    | (go_at_call 14; refine (oc_close w0 F b S w3 (HO.out.below B3.out) d.k.a HS.out _ _ rfl rfl).mono ?_; rintro r w4 ⟨rfl, o4, f4⟩;
       have O4 := Lib.hid o4; have F4 := Lib.hid f4; have X4 := Lib.hid (foot_kept f4 X3.out (by decide)); have D4 := Lib.hid (foot_kept f4 D3.out (by decide)); have R4 := Lib.hid (foot_kept f4 R3.out (by decide));
       have I4 := Lib.hid ((HX.out.below B3.out).foot f4);
       obtain ⟨_, _, q2, _⟩ := Dd.range D4.out;
       clear o4 f4)
    | (refine wpList_load_agg rfl 29 _ rfl g rfl X.vals ?hy _ HU.out rfl (sizeX _) ?_; (case hy => exact X4.out))
    | (go_at_call 22; refine (rclose_any X w0.heap.size T d.k.a w4 I4.out O4.out.low.size HTS.out).mono ?_; rintro r w5 ⟨Y, rfl, i5, b5⟩;
       have I5 := Lib.hid i5; have B5 := Lib.hid b5; have O5 := Lib.hid (O4.out.below b5); have R5 := Lib.hid (kb_below R4.out b5);
       obtain ⟨g5, hg5⟩ : ∃ g5, w5.heap.size = g5 := ⟨_, rfl⟩;
       have S5 : Hid (g + 3 ≤ g5) := Lib.hid (by have := B5.out.size; have := F4.out.size; have := S3.out; omega);
       clear i5 b5)
    | (refine wpList_alloc_agg rfl 29 rfl g5 hg5 RC.zero.vals (allocX _) ?_; intro w6 h6 l6 t6;
       have B6 : Hid (Below w5.heap.size w5 w6) := Lib.hid (by rw [hg5]; exact l6); have H6 := Lib.hid h6; have R6 := Lib.hid (kb_below R5.out B6.out); clear h6 l6 t6)
    | (refine wpList_store_agg rfl 29 _ _ rfl g5 RC.zero.vals Y.vals rfl rfl ?hz rfl (sizeX _) (RC.ones_vals _) ?_; (case hz => exact H6.out); intro w7 h7 f7 t7;
       have H7 := Lib.hid h7; have F7 := Lib.hid f7; have R7 : Hid (w7.heap[g + 2]? = some (vobj 29 RC.zero.vals)) := Lib.hid ((f7.block (g + 2) (heap_lt R6.out) (by have := S5.out; show ¬ (g + 2 = g5); omega)).trans R6.out);
       clear h7 f7 t7)
    | (refine wpList_load_agg rfl 29 _ rfl g5 rfl Y.vals ?hy _ HU.out rfl (sizeX _) ?_; (case hy => exact H7.out))
    | (refine wpList_store_agg rfl 29 _ _ rfl (g + 2) RC.zero.vals Y.vals rfl rfl ?hz rfl (sizeX _) (RC.ones_vals _) ?_; (case hz => exact R7.out); intro w8 h8 f8 t8))
  have hw0 := HO.out.low.size
  have s5 := S5.out
  have O7 := ((O5.out.below B6.out).beside H6.out (by decide) F7.out (by omega)).beside R7.out (by decide) f8 (by omega)
  have I7 := ((I5.out.below B6.out).beside H6.out (by decide) F7.out).beside R7.out (by decide) f8
  refine bodyPost_ret (v := .tuple #[.agg (aggV Y.vals), .bool (S.alike T d)]) (results_agg1 Try.results11 rfl (loadX h8) (by rw [HAL.out]; rfl)) rfl ⟨Y, rfl, ⟨F, by rw [E1.out]; exact O7, fun _ _ h => h⟩, by rw [E2.out]; exact I7, ?_⟩
  have bx : Below w.heap.size w4 w8 := by
    have e4 : w.heap.size ≤ w4.heap.size := Nat.le_trans B3.out.size F4.out.size
    refine ((B5.out.mono e4).trans (B6.out.mono (Nat.le_trans e4 B5.out.size))).trans ((F7.out.below (Nat.le_trans (Nat.le_trans e4 B5.out.size) B6.out.size) (fun j hj e => ?_)).trans (f8.below (Nat.le_trans (Nat.le_trans (Nat.le_trans e4 B5.out.size) B6.out.size) F7.out.size) (fun j hj e => ?_)))
    · have e' : j = g5 := e
      omega
    · have e' : j = g + 2 := e
      omega
  exact foot_below' (foot_of_below (by first | exact B3.out | (rw [hg]; exact B3.out)) F4.out) bx
end Go.Proofs.Ytlphahkmibhidaa
