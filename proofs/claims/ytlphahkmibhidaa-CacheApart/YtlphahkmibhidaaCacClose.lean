/- Contracts of package cache: Close. -/
import Derived.Test.YtlphahkmibhidaaCac
import Derived.Test.YtlphahkmibhidaaTail
import Derived.Deep.LoopGhost
import Derived.Deep.RegionLaw
namespace Go.Proofs.Ytlphahkmibhidaa
set_option linter.unusedVariables false
open Go.ChangeShapes Go.WideShapes Go.ChangeAt Go.RowKit

theorem turned_frm {w w' : World} {m : Nat} (h : w.mapTurned w' m) : Frm (· = m) w w' := Frm.of_grown (F := (· = m)) h.grown rfl
/-- Entries that are still there when those of a scope are on their way out. -/
def leftE (L : List (CE × Nat)) (left : K3 → Bool) (s : Int) : List (CE × Nat) := L.filter (fun p => left p.1.k || !decide (p.1.k.a = s))
theorem leftE_not (L : List (CE × Nat)) (left : K3 → Bool) {s : Int} {x : K3} (hx : x.a ≠ s) : leftE L (fun y => left y && !decide (y = x)) s = leftE L left s := by
  unfold leftE
  apply List.filter_congr
  intro p _
  by_cases h : p.1.k = x
  · simp [h, hx]
  · simp [h]
theorem leftE_del (L : List (CE × Nat)) (left : K3 → Bool) {s : Int} {x : K3} (hx : x.a = s) : leftE L (fun y => left y && !decide (y = x)) s = (leftE L left s).filter (fun p => !decide (p.1.k = x)) := by
  unfold leftE
  rw [List.filter_filter]
  apply List.filter_congr
  intro p _
  by_cases h : p.1.k = x
  · simp [h, hx]
  · simp [h]
theorem ptrs_del (M : List (CE × Nat)) (x y : K3) : ptrs (M.filter (fun p => !decide (p.1.k = x))) y = if y = x then none else ptrs M y := by
  unfold ptrs
  rw [List.find?_filter]
  by_cases h : y = x
  · subst h
    rw [if_pos rfl, List.find?_eq_none.2 (by simp)]
    rfl
  · rw [if_neg h]
    congr 2
    funext p
    by_cases hp : p.1.k = y
    · simp [hp, h]
    · simp [hp]
theorem ptrs_none {M : List (CE × Nat)} {x : K3} : ptrs M x = none ↔ ∀ p ∈ M, p.1.k ≠ x := by
  unfold ptrs
  rw [Option.map_eq_none_iff, List.find?_eq_none]
  simp
theorem ptrs_some {M : List (CE × Nat)} {x : K3} {v : Value} (h : ptrs M x = some v) : ∃ p ∈ M, p.1.k = x ∧ v = .pointer (some ⟨p.2, 0, none⟩) := by
  unfold ptrs at h
  obtain ⟨p, hp, rfl⟩ := Option.map_eq_some_iff.1 h
  exact ⟨p, List.mem_of_find?_eq_some hp, by simpa using List.find?_some hp, rfl⟩
theorem del_len : ∀ {M : List (CE × Nat)} {x : K3}, M.Pairwise (fun a c => a.1.k ≠ c.1.k) → (∃ p ∈ M, p.1.k = x) → (M.filter (fun p => !decide (p.1.k = x))).length + 1 = M.length
  | [], _, _, h => by obtain ⟨p, hp, _⟩ := h; simp at hp
  | q :: M, x, hp, h => by
    obtain ⟨h1, h2⟩ := List.pairwise_cons.1 hp
    by_cases hq : q.1.k = x
    · have : M.filter (fun p => !decide (p.1.k = x)) = M := List.filter_eq_self.2 (fun p hp => by simpa [hq] using (h1 p hp).symm)
      simp [hq, this]
    · have := del_len (M := M) (x := x) h2 (by
        obtain ⟨p, hp, e⟩ := h
        rcases List.mem_cons.1 hp with rfl | hp
        · exact absurd e hq
        · exact ⟨p, hp, e⟩)
      simp [hq]
      omega
/-- On the way. -/
structure Clo (w wr : World) (km r : Nat) (L : List (CE × Nat)) (s : Int) (c : Nat) (left : K3 → Bool) (cnt : Nat) : Prop where
  rg : RanV keyK wr km r (leftE L left s).length (ptrs (leftE L left s)) left cnt
  num : c + (leftE L left s).length = L.length
  frm : Frm (· = km) w wr
theorem CX.pair {w : World} {F : Nat → Prop} {b km jm n : Nat} {L : List (CE × Nat)} {jf : Int → Option Value} {S : CA} (h : CX w F b km jm L n jf S) : L.Pairwise (fun a c => a.1.k ≠ c.1.k) := by
  have := h.ok.keys
  rw [← h.view, List.pairwise_map] at this
  exact this
theorem CX.mem {w : World} {F : Nat → Prop} {b km jm n : Nat} {L : List (CE × Nat)} {jf : Int → Option Value} {S : CA} (h : CX w F b km jm L n jf S) {p : CE × Nat} (hp : p ∈ L) : p.1 ∈ S.E := by
  rw [← h.view]; exact List.mem_map_of_mem hp
theorem Clo.start {w w1 : World} {F : Nat → Prop} {b km jm n r : Nat} {L : List (CE × Nat)} {jf : Int → Option Value} {S : CA} (h : CX w F b km jm L n jf S) (s : Int) (hrg : RanV keyK w1 km r L.length (ptrs L) (fun x => (ptrs L x).isSome) L.length) (hb : Below w.heap.size w w1) : Clo w w1 km r L s 0 (fun x => (ptrs L x).isSome) L.length := by
  have e : leftE L (fun x => (ptrs L x).isSome) s = L := by
    refine List.filter_eq_self.2 (fun p hp => ?_)
    have : ptrs L p.1.k ≠ none := fun hc => ptrs_none.1 hc p hp rfl
    have := Option.isSome_iff_ne_none.2 this
    simp [this]
  exact ⟨by rw [e]; exact hrg, by rw [e]; omega, Frm.of_below hb⟩
/-- One that stays. -/
theorem Clo.stay {w wr w3 : World} {km r : Nat} {L : List (CE × Nat)} {s : Int} {c : Nat} {left : K3 → Bool} {cnt cnt1 : Nat} {x : K3} (h : Clo w wr km r L s c left cnt) (hx : x.a ≠ s)
    (hrg : RanV keyK w3 km r (leftE L left s).length (ptrs (leftE L left s)) (fun y => left y && !decide (y = x)) cnt1) (hf : Frm (· = km) w w3) : Clo w w3 km r L s c (fun y => left y && !decide (y = x)) cnt1 :=
  ⟨by rw [leftE_not L left hx]; exact hrg, by rw [leftE_not L left hx]; exact h.num, hf⟩
/-- One that goes. -/
theorem Clo.go {w wr w4 : World} {km r : Nat} {L : List (CE × Nat)} {s : Int} {c : Nat} {left : K3 → Bool} {cnt cnt1 : Nat} {x : K3} (hL : L.Pairwise (fun a c => a.1.k ≠ c.1.k)) (h : Clo w wr km r L s c left cnt) (hx : x.a = s) {v : Value} (hv : ptrs (leftE L left s) x = some v)
    (hrg : RanV keyK w4 km r (if (ptrs (leftE L left s) x).isSome then (leftE L left s).length - 1 else (leftE L left s).length) (fun y => if y = x then none else ptrs (leftE L left s) y) (fun y => (left y && !decide (y = x)) && !decide (y = x)) cnt1) (hf : Frm (· = km) w w4) : Clo w w4 km r L s (c + 1) (fun y => left y && !decide (y = x)) cnt1 := by
  have hl := del_len (M := leftE L left s) (x := x) (hL.sublist List.filter_sublist) (by obtain ⟨p, hp, e, _⟩ := ptrs_some hv; exact ⟨p, hp, e⟩)
  rw [← leftE_del L left hx] at hl
  have hn := h.num
  refine ⟨?_, by omega, hf⟩
  rw [hv] at hrg
  simp only [Option.isSome_some, if_true] at hrg
  rw [show (leftE L left s).length - 1 = (leftE L (fun y => left y && !decide (y = x)) s).length by omega] at hrg
  refine hrg.congr (fun y _ => ?_) (fun y _ => ?_)
  · rw [leftE_del L left hx, ptrs_del]
  · cases left y <;> cases decide (y = x) <;> rfl
theorem Clo.done {w wr : World} {F : Nat → Prop} {b km jm n r : Nat} {L : List (CE × Nat)} {jf : Int → Option Value} {S : CA} {s : Int} {c : Nat} {left : K3 → Bool} {cnt : Nat} (hx : CX w F b km jm L n jf S) (h : Clo w wr km r L s c left cnt) (hl : ∀ x, wf3 x → left x = false) : c = S.closed s ∧ Cch wr F b (S.close s) ∧ Frm (Foot w F) w wr := by
  have e : leftE L left s = L.filter (fun p => !decide (p.1.k.a = s)) := by
    apply List.filter_congr
    intro p hp
    rw [hl p.1.k (hx.ok.fitE _ (hx.mem hp)).1]
    simp
  have ev : (leftE L left s).map (·.1) = (S.close s).E := by
    rw [e]
    show _ = S.E.filter _
    rw [← hx.view, List.filter_map]
    rfl
  have hm := h.rg.map
  have hnum := h.num
  have hel : (leftE L left s).length = (S.close s).E.length := by rw [← ev, List.length_map]
  have hcl := S.close_len s
  rw [← hx.len] at hcl
  have kc : ∀ {j : Nat} {cs : Array Value} {t : TypeId} {z : Nat × Nat}, w.heap[j]? = some (.cells cs t z) → wr.heap[j]? = some (.cells cs t z) := fun {j cs t z} hj => by
    rw [h.frm.block j (heap_lt hj) (hx.keys.ne_cells hj)]; exact hj
  have hmem : ∀ p ∈ leftE L left s, p ∈ L := fun p hp => (List.mem_filter.1 hp).1
  refine ⟨by omega, ⟨km, jm, leftE L left s, n, jf, ⟨kc hx.blk, hm, fun p hp => kc (hx.ents p (hmem p hp)), hx.apart.sublist List.filter_sublist, ev, hx.join.keep (h.frm.block jm hx.join.lt (Ne.symm hx.ne)), hx.nj, fun z v hz hv => ?_, hx.rown, hx.rapt, hx.ne, hx.fb, hx.fk, hx.fj, fun p hp => hx.fe p (hmem p hp), hx.fr, hx.ok.close s⟩⟩, ?_⟩
  · refine ⟨(hx.rows z v hz hv).1.apart (fun g hg => ?_), (hx.rows z v hz hv).2⟩
    obtain ⟨cs, hcs⟩ := (hx.rows z v hz hv).1.block hg
    rw [kc hcs, hcs]
  · refine h.frm.mono (fun j hj e => ?_)
    have e' : j = km := e
    subst e'
    refine ⟨hx.fk, fun cs t z hc => absurd rfl (hx.keys.ne_cells hc)⟩

theorem close_nil (s : Int) (w : World) : Calls Try.prog 14 #[.pointer none, .int .i64 s] w fun r w' => r = .returned (.int .i64 0) ∧ w = w' := by
  go_enter Try.func14, Try.ntmps14
  go_wp2
  go_ret
  exact ⟨rfl, rfl⟩
theorem keyK_val (x : K3) : keyK.val x = .agg (aggV (v3 x)) := rfl
set_option maxRecDepth 100000 in
set_option maxHeartbeats 2000000 in
theorem close_cch (F : Nat → Prop) (b : Nat) (S : CA) (s : Int) (w : World) (h : Cch w F b S) (hn : S.size ≤ 1000) :
    Calls Try.prog 14 #[.pointer (some ⟨b, 0, none⟩), .int .i64 s] w fun r w' => r = .returned (.int .i64 (S.closed s)) ∧ Cch w' F b (S.close s) ∧ Frm (Foot w F) w w' := by
  obtain ⟨km, jm, L, n, jf, h⟩ := h
  obtain ⟨c0, c1⟩ := h.cells
  have hkeys := h.keys
  have hlen : L.length ≤ 1000 := by have := h.len; unfold CA.size at hn; omega
  have HX := Lib.hid h
  obtain ⟨fs, hu⟩ := undK
  have HU := Lib.hid hu
  clear h hu hn
  go_enter Try.func14, Try.ntmps14
  go_wp2_with (first
    | (at_range; refine wpList_rangeV (K := keyK) rfl _ 58 68 rfl key_map rfl hkeys ?_; intro w0 hrg0 hb0 hs0)
    | go_in)
  go_frame
  have ST := Lib.hid (Clo.start HX.out s hrg0 hb0)
  clear hrg0 hb0 hs0 c1 hkeys
  go_loopg [5] L.length (fun k v5 wr => ∃ (c : Nat) (left : K3 → Bool) (cnt : Nat), v5 = .int .i64 c ∧ cnt ≤ k ∧ Clo w wr km w.heap.size L s c left cnt)
  case atStart => exact ⟨0, _, _, rfl, Nat.le_refl _, ST.out⟩
  case round =>
    obtain ⟨c, left, cnt, rfl, hk, hc⟩ := hrel
    have HC := Lib.hid hc
    have HK := Lib.hid hk
    have hcl : c ≤ 1000 := by have := hc.num; omega
    have hrg := hc.rg
    clear hc hk ST c0
    go_wp2_with (first
      | (at_next; refine wpList_nextV (K := keyK) rfl _ rfl rfl hrg ?_ ?_)
      | go_in)
    · intro hl0
      have HD := Lib.hid (HC.out.done HX.out hl0)
      clear hrg hl0
      go_wp2
      go_ret
      exact ⟨ret_int (by rw [HD.out.1]), HD.out.2⟩
    · intro x v w1 cnt1 hx hlx hfx hrg1 hlt hf1 hs1 hen
      rw [keyK_val] at hen
      rw [keyK_val]
      obtain ⟨g, hg⟩ : ∃ g, w1.heap.size = g := ⟨_, rfl⟩
      have hkm : km < w.heap.size := HX.out.keys.lt
      have hw1 : w.heap.size ≤ g := by have := HC.out.frm.size; omega
      have F1 : Hid (Frm (· = km) w w1) := Lib.hid (HC.out.frm.trans hf1 (fun j hj e => by have e' : j = w.heap.size := e; omega))
      have RG1 := Lib.hid hrg1
      have HLT := Lib.hid hlt
      have HWX : Hid (wf3 x) := Lib.hid hx
      have HFX := Lib.hid hfx
      clear hrg hrg1 hlt hf1 hx hlx hfx hs1
      by_cases hxs : x.a = s
      · have hb1 : (x.a == s) = true := by simp [hxs]
        have HXS := Lib.hid hxs
        clear hxs
        go_wp2_with (first
          | (refine wpList_alloc_agg rfl 47 rfl g hg (v3 zero3) (allocK _) ?_; intro w2 h2 l2 t2;
             have F2 : Hid (Frm (· = km) w w2) := Lib.hid (F1.out.then_below (by rw [hg]; exact l2));
             have RG2 := Lib.hid (RG1.out.keep (l2.block km (by omega)) (l2.block w.heap.size (by rw [← hg]; exact heap_lt (RG1.out.iter.choose_spec.choose_spec.choose_spec.choose_spec))));
             have H2 := Lib.hid h2; clear h2 l2)
          | (refine wpList_store_agg rfl 47 _ _ rfl g (v3 zero3) (v3 x) rfl rfl ?hz rfl (sizeK _) (v3_ones _) ?_; (case hz => exact H2.out); intro w3 h3 f3 t3;
             have nr := RG2.out.ne_cells H2.out;
             have RG3 := Lib.hid (RG2.out.keep (f3.block km (by omega) (Ne.symm nr.1)) (f3.block w.heap.size (by omega) (Ne.symm nr.2)));
             have F3 : Hid (Frm (· = km) w w3) := Lib.hid (F2.out.trans f3 (fun j hj e => by have e' : j = g := e; exfalso; omega));
             obtain ⟨d0, d1, d2⟩ := cells3 h3;
             have c0 : w3.cell? ⟨b, 0, none⟩ = some (.map (some km)) := (vobj_cell (vs := [.map (some km), .map (some jm)]) ((F3.out.block b (heap_lt HX.out.blk) (HX.out.keys.ne_cells HX.out.blk)).trans HX.out.blk) rfl);
             obtain ⟨w4, cnt4, hst, rg4, hle4, ht4⟩ := RanV.drop (w := w3.drew) (RG3.out.keep rfl rfl) HWX.out key_map 0;
             rw [keyK_val] at hst;
             have hst' : (Builtin.delete_ #[58, 47] 0 #[.map (some km), .agg #[.int .i64 x.a, .int .i64 x.b, .int .i64 x.c]]).run Try.prog w3.drew = .ok (.tuple #[]) w4 := hst;
             have RG4 := Lib.hid rg4; have HLE := Lib.hid hle4;
             have F4 : Hid (Frm (· = km) w w4) := Lib.hid ((F3.out.ali (drew_ali w3)).trans (turned_frm ht4) (fun _ _ h => h));
             clear h3 f3 t3 hst rg4 hle4 ht4 nr t2))
        go_region
        all_goals go_wp2
        all_goals go_roundg cnt4
        all_goals first
          | (have := HK.out; have := HLT.out; have := HLE.out; omega)
          | exact ⟨c + 1, _, cnt4, by simp, Nat.le_refl _, HC.out.go HX.out.pair HXS.out HFX.out RG4.out F4.out⟩
      · have hb1 : (x.a == s) = false := by simp [hxs]
        have HXS := Lib.hid hxs
        clear hxs
        go_wp2_with (first
          | (refine wpList_alloc_agg rfl 47 rfl g hg (v3 zero3) (allocK _) ?_; intro w2 h2 l2 t2;
             have F2 : Hid (Frm (· = km) w w2) := Lib.hid (F1.out.then_below (by rw [hg]; exact l2));
             have RG2 := Lib.hid (RG1.out.keep (l2.block km (by omega)) (l2.block w.heap.size (by rw [← hg]; exact heap_lt (RG1.out.iter.choose_spec.choose_spec.choose_spec.choose_spec))));
             have H2 := Lib.hid h2; clear h2 l2)
          | (refine wpList_store_agg rfl 47 _ _ rfl g (v3 zero3) (v3 x) rfl rfl ?hz rfl (sizeK _) (v3_ones _) ?_; (case hz => exact H2.out); intro w3 h3 f3 t3;
             have nr := RG2.out.ne_cells H2.out;
             have RG3 := Lib.hid (RG2.out.keep (f3.block km (by omega) (Ne.symm nr.1)) (f3.block w.heap.size (by omega) (Ne.symm nr.2)));
             have F3 : Hid (Frm (· = km) w w3) := Lib.hid (F2.out.trans f3 (fun j hj e => by have e' : j = g := e; exfalso; omega));
             obtain ⟨d0, d1, d2⟩ := cells3 h3;
             clear h3 f3 t3 nr t2))
        go_roundg cnt1
        case measure => have := HK.out; have := HLT.out; omega
        case rel => exact ⟨c, _, cnt1, rfl, Nat.le_refl _, HC.out.stay HXS.out RG3.out F3.out⟩
end Go.Proofs.Ytlphahkmibhidaa
