/- Contracts of package cache: Settle. -/
import Derived.Test.YtlphahkmibhidaaCacClose
import Derived.Deep.RegionHeld3
namespace Go.Proofs.Ytlphahkmibhidaa
set_option linter.unusedVariables false
open Go.ChangeShapes Go.WideShapes Go.ChangeAt Go.RowKit

theorem sets_ent {w : World} {g : Nat} {e : CE} (h : w.heap[g]? = some (eobj e)) (t : K3) :
    ((((w.setCell ⟨g, 1, none⟩ (.bool true)).setCell ⟨g, 2, none⟩ (.int .i64 t.a)).setCell ⟨g, 3, none⟩ (.int .i64 t.b)).setCell ⟨g, 4, none⟩ (.int .i64 t.c)).heap[g]? = some (eobj ⟨e.k, e.id, true, t⟩) := by
  rw [vobj_set (vobj_set (vobj_set (vobj_set h 1 _) 2 _) 3 _) 4 _]
  rfl
theorem sets_ent_frm (w : World) (g : Nat) (a b c d : Value) : Frm (· = g) w ((((w.setCell ⟨g, 1, none⟩ a).setCell ⟨g, 2, none⟩ b).setCell ⟨g, 3, none⟩ c).setCell ⟨g, 4, none⟩ d) :=
  ((((Frm.refl (· = g) w).set (p := ⟨g, 1, none⟩) rfl a).set (p := ⟨g, 2, none⟩) rfl b).set (p := ⟨g, 3, none⟩) rfl c).set (p := ⟨g, 4, none⟩) rfl d
theorem cellsE {w : World} {g : Nat} {e : CE} (h : w.heap[g]? = some (eobj e)) : w.cell? ⟨g, 0, none⟩ = some (.int .i64 e.id) ∧ w.cell? ⟨g, 1, none⟩ = some (.bool e.done) ∧ w.cell? ⟨g, 2, none⟩ = some (.int .i64 e.t.a) ∧ w.cell? ⟨g, 3, none⟩ = some (.int .i64 e.t.b) ∧ w.cell? ⟨g, 4, none⟩ = some (.int .i64 e.t.c) :=
  ⟨vobj_cell h rfl, vobj_cell h rfl, vobj_cell h rfl, vobj_cell h rfl, vobj_cell h rfl⟩
theorem ptrs_sets (L : List (CE × Nat)) (id : Int) (t : K3) (x : K3) : ptrs (L.map (fun p => (p.1.sets id t, p.2))) x = ptrs L x := by
  unfold ptrs
  rw [List.find?_map]
  simp only [Option.map_map, Function.comp_def, CE.sets_k]
/-- An entry on the way. -/
def onway (left : K3 → Bool) (id : Int) (t : K3) (e : CE) : CE := if left e.k then e else e.sets id t
/-- On the way. -/
structure Stl (w wr : World) (km r : Nat) (L : List (CE × Nat)) (id : Int) (t : K3) (left : K3 → Bool) (cnt : Nat) : Prop where
  rg : RanV keyK wr km r L.length (ptrs L) left cnt
  ent : ∀ p ∈ L, wr.heap[p.2]? = some (eobj (onway left id t p.1))
  frm : Frm (fun j => ∃ p ∈ L, p.2 = j) w wr
section
variable {w wr w1 w2 : World} {F : Nat → Prop} {b km jm n r cnt cnt1 : Nat} {L : List (CE × Nat)} {jf : Int → Option Value} {S : CA} {id : Int} {t x : K3} {left : K3 → Bool}
theorem Stl.start (h : CX w F b km jm L n jf S) (id : Int) (t : K3) (hrg : RanV keyK w1 km r L.length (ptrs L) (fun x => (ptrs L x).isSome) L.length) (hb : Below w.heap.size w w1) : Stl w w1 km r L id t (fun x => (ptrs L x).isSome) L.length := by
  refine ⟨hrg, fun p hp => ?_, Frm.of_below hb⟩
  have : ptrs L p.1.k ≠ none := fun hc => ptrs_none.1 hc p hp rfl
  have := Option.isSome_iff_ne_none.2 this
  unfold onway
  simp only [this, if_true]
  exact kb_below (h.ents p hp) hb
theorem pw_of {α : Type} {R : α → α → Prop} (hs : ∀ a c, R a c → R c a) : ∀ {l : List α}, l.Pairwise R → ∀ {p q : α}, p ∈ l → q ∈ l → p ≠ q → R p q
  | [], _, _, _, hp, _, _ => by simp at hp
  | a :: l, h, p, q, hp, hq, hne => by
    obtain ⟨h1, h2⟩ := List.pairwise_cons.1 h
    rcases List.mem_cons.1 hp with e | hp'
    · rcases List.mem_cons.1 hq with e' | hq'
      · exact absurd (e.trans e'.symm) hne
      · rw [e]; exact h1 q hq'
    · rcases List.mem_cons.1 hq with e' | hq'
      · rw [e']; exact hs _ _ (h1 p hp')
      · exact pw_of hs h2 hp' hq' hne
theorem uniq_key (hL : L.Pairwise (fun a c => a.1.k ≠ c.1.k)) {p q : CE × Nat} (hp : p ∈ L) (hq : q ∈ L) (h : p.1.k = q.1.k) : p = q := by
  by_cases e : p = q
  · exact e
  · have := pw_of (R := fun a c : CE × Nat => a.1.k ≠ c.1.k) (fun a c hne => Ne.symm hne) hL hp hq e
    exact absurd h this
theorem uniq_blk (hL : L.Pairwise (fun a c => a.2 ≠ c.2)) {p q : CE × Nat} (hp : p ∈ L) (hq : q ∈ L) (h : p.2 = q.2) : p = q := by
  by_cases e : p = q
  · exact e
  · have := pw_of (R := fun a c : CE × Nat => a.2 ≠ c.2) (fun a c hne => Ne.symm hne) hL hp hq e
    exact absurd h this
theorem onway_other (left : K3 → Bool) (id : Int) (t : K3) {e : CE} {x : K3} (h : e.k ≠ x) : onway (fun y => left y && !decide (y = x)) id t e = onway left id t e := by
  unfold onway
  simp [h]
theorem onway_this (left : K3 → Bool) (id : Int) (t : K3) {e : CE} {x : K3} (h : e.k = x) : onway (fun y => left y && !decide (y = x)) id t e = e.sets id t := by
  unfold onway
  simp [h]
/-- One that another one leads. -/
theorem Stl.pass (hL : L.Pairwise (fun a c => a.1.k ≠ c.1.k)) (h : Stl w wr km r L id t left cnt) {p : CE × Nat} (hp : p ∈ L) (hx : p.1.k = x) (hlx : left x = true) (hid : p.1.id ≠ id) (hrg : RanV keyK w1 km r L.length (ptrs L) (fun y => left y && !decide (y = x)) cnt1) (hf : Frm (· = r) wr w1) (hr : w.heap.size ≤ r) : Stl w w1 km r L id t (fun y => left y && !decide (y = x)) cnt1 := by
  have hk : ∀ q ∈ L, w1.heap[q.2]? = wr.heap[q.2]? := fun q hq => hf.block _ (heap_lt (h.ent q hq)) (h.rg.ne_cells (h.ent q hq)).2
  refine ⟨hrg, fun q hq => ?_, h.frm.trans hf (fun j hj e => by have e' : j = r := e; omega)⟩
  rw [hk q hq, h.ent q hq]
  by_cases hq' : q.1.k = x
  · have := uniq_key hL hq hp (hq'.trans hx.symm)
    subst this
    rw [onway_this _ _ _ hq', CE.sets, if_neg hid]
    unfold onway
    rw [hx, hlx]
    simp
  · rw [onway_other _ _ _ hq']
/-- One that id leads. -/
theorem Stl.tell (hL : L.Pairwise (fun a c => a.1.k ≠ c.1.k)) (hA : L.Pairwise (fun a c => a.2 ≠ c.2)) (h : Stl w wr km r L id t left cnt) {p : CE × Nat} (hp : p ∈ L) (hx : p.1.k = x) (hid : p.1.id = id) (hrg : RanV keyK w1 km r L.length (ptrs L) (fun y => left y && !decide (y = x)) cnt1) (hf : Frm (· = r) wr w1) (hr : w.heap.size ≤ r)
    (hf2 : Frm (· = p.2) w1 w2) (he : w2.heap[p.2]? = some (eobj ⟨p.1.k, p.1.id, true, t⟩)) : Stl w w2 km r L id t (fun y => left y && !decide (y = x)) cnt1 := by
  have hk : ∀ q ∈ L, w1.heap[q.2]? = wr.heap[q.2]? := fun q hq => hf.block _ (heap_lt (h.ent q hq)) (h.rg.ne_cells (h.ent q hq)).2
  have hp1 := (hk p hp).trans (h.ent p hp)
  have hne := hrg.ne_cells hp1
  refine ⟨hrg.keep (hf2.block km hrg.map.lt (Ne.symm hne.1)) (hf2.block r ?_ (Ne.symm hne.2)), fun q hq => ?_, (h.frm.trans hf (fun j hj e => by have e' : j = r := e; omega)).trans hf2 (fun j hj e => ⟨p, hp, e.symm⟩)⟩
  · obtain ⟨_, _, _, _, hi⟩ := hrg.iter
    exact heap_lt hi
  · by_cases hq' : q.1.k = x
    · have := uniq_key hL hq hp (hq'.trans hx.symm)
      subst this
      rw [he, onway_this _ _ _ hq', CE.sets, if_pos hid]
    · have hqp : q.2 ≠ p.2 := fun e => hq' (by rw [uniq_blk hA hq hp e]; exact hx)
      rw [hf2.block q.2 (heap_lt ((hk q hq).trans (h.ent q hq))) hqp, hk q hq, h.ent q hq, onway_other _ _ _ hq']
/-- All told, who joined struck. -/
theorem Stl.done (hx : CX w F b km jm L n jf S) (h : Stl w wr km r L id t left cnt) (hl : ∀ x, wf3 x → left x = false) (hz : wf64 id) (ht : wf3 t) {v : Value} (hv : (jf id).getD (.slice none 0 0) = v)
    (hm2 : MapV intK w2 jm (if (jf id).isSome then n - 1 else n) (fun y => if y = id then none else jf y)) (hf2 : Frm (· = jm) wr w2) :
    Ints w2 0 v (S.joined id) ∧ (∀ g, v.ownBlock = some g → F g) ∧ Cch w2 (fun j => F j ∧ v.ownBlock ≠ some j) b (S.settle id t) ∧ Frm (Foot w F) w w2 := by
  have kc : ∀ {j : Nat} {cs : Array Value} {ty : TypeId} {z : Nat × Nat}, w.heap[j]? = some (.cells cs ty z) → ty ≠ 70 → w2.heap[j]? = some (.cells cs ty z) := fun {j cs ty z} hj hty => by
    have h1 : wr.heap[j]? = some (.cells cs ty z) := by
      rw [h.frm.block j (heap_lt hj) (fun ⟨p, hp, e⟩ => ?_)]
      · exact hj
      · rw [← e, hx.ents p hp] at hj
        injection hj with hj
        injection hj with _ hj
        exact hty hj.symm
    have hjm : j ≠ jm := hx.join.ne_cells hj
    rw [hf2.block j (heap_lt h1) hjm]
    exact h1
  have hent : ∀ p ∈ L, w2.heap[p.2]? = some (eobj (p.1.sets id t)) := fun p hp => by
    have h1 := h.ent p hp
    unfold onway at h1
    rw [hl _ (hx.ok.fitE _ (hx.mem hp)).1] at h1
    simp only [Bool.false_eq_true, if_false] at h1
    rw [hf2.block _ (heap_lt h1) (fun e => hx.join.ne_cells (hx.ents p hp) e)]
    exact h1
  have hrow : ∀ z u, wf64 z → jf z = some u → Ints w2 0 u (S.joined z) := fun z u hz hu => by
    refine (hx.rows z u hz hu).1.apart (fun g hg => ?_)
    obtain ⟨cs, hcs⟩ := (hx.rows z u hz hu).1.block hg
    rw [kc hcs (by decide), hcs]
  have hown : ∀ g, v.ownBlock = some g → jf id = some v := fun g hg => by
    cases hj : jf id with
    | none => rw [hj] at hv; simp at hv; rw [← hv] at hg; cases hg
    | some u => rw [hj] at hv; simp at hv; rw [hv]
  have hvt : ∀ g, v.ownBlock = some g → ∃ cs, w.heap[g]? = some (.cells cs 3 (0, 0)) := fun g hg => (hx.rows id v hz (hown g hg)).1.block hg
  refine ⟨?_, fun g hg => hx.fr id v g hz (hown g hg) hg, ⟨km, jm, L.map (fun p => (p.1.sets id t, p.2)), _, _, ⟨kc hx.blk (by decide), ?_, ?_, ?_, ?_, hm2, ?_, fun z u hz' hu => ?_, fun z hz' hu => ?_, fun z z' u u' g h1 h2 hne hu hu' hg => ?_, hx.ne, ⟨hx.fb, fun e => ?_⟩, ⟨hx.fk, fun e => ?_⟩, ⟨hx.fj, fun e => ?_⟩, fun p hp => ?_, fun z u g hz' hu hg => ?_, hx.ok.settle id ht⟩⟩, ?_⟩
  · cases hj : jf id with
    | none => rw [hj] at hv; simp at hv; rw [hx.rown id hz hj, ← hv]; exact Ints.nil _ _
    | some u => rw [hj] at hv; simp at hv; rw [← hv]; exact hrow id u hz hj
  · rw [List.length_map]
    have hkm := (h.rg.map.keep (w' := w2) (hf2.block km h.rg.map.lt hx.ne))
    exact hkm.congr (fun y _ => (ptrs_sets L id t y).symm)
  · intro p hp
    obtain ⟨q, hq, rfl⟩ := List.mem_map.1 hp
    exact hent q hq
  · rw [List.pairwise_map]
    exact hx.apart
  · rw [List.map_map]
    show L.map (fun p => p.1.sets id t) = S.E.map _
    rw [← hx.view, List.map_map]
    rfl
  · have := hx.nj
    show _ ≤ S.q
    split <;> omega
  · by_cases hc : z = id
    · simp [hc] at hu
    · simp [hc] at hu
      rw [S.joined_settle, if_neg hc]
      exact ⟨hrow z u hz' hu, (hx.rows z u hz' hu).2⟩
  · rw [S.joined_settle]
    by_cases hc : z = id
    · rw [if_pos hc]
    · simp [hc] at hu
      rw [if_neg hc]
      exact hx.rown z hz' hu
  · by_cases hc : z = id
    · simp [hc] at hu
    · by_cases hc' : z' = id
      · simp [hc'] at hu'
      · simp [hc] at hu
        simp [hc'] at hu'
        exact hx.rapt z z' u u' g h1 h2 hne hu hu' hg
  · obtain ⟨cs, hcs⟩ := hvt b e
    have := hx.blk
    rw [hcs] at this
    injection this with this
    injection this with _ this
    exact absurd this (by decide)
  · obtain ⟨cs, hcs⟩ := hvt km e
    exact hx.keys.ne_cells hcs rfl
  · obtain ⟨cs, hcs⟩ := hvt jm e
    exact hx.join.ne_cells hcs rfl
  · obtain ⟨q, hq, rfl⟩ := List.mem_map.1 hp
    refine ⟨hx.fe q hq, fun e => ?_⟩
    obtain ⟨cs, hcs⟩ := hvt q.2 e
    have := hx.ents q hq
    rw [hcs] at this
    injection this with this
    injection this with _ this
    exact absurd this (by decide)
  · by_cases hc : z = id
    · simp [hc] at hu
    · simp [hc] at hu
      refine ⟨hx.fr z u g hz' hu hg, fun e => ?_⟩
      exact hx.rapt id z v u g hz hz' (Ne.symm hc) (hown g e) hu e hg
  · refine (h.frm.mono (F' := Foot w F) (fun j hj ⟨p, hp, e⟩ => ?_)).trans (hf2.mono (F' := (· = jm)) (fun _ _ h => h)) (fun j hj e => ?_)
    · subst e
      refine ⟨hx.fe p hp, fun cs ty z hc => .inl ?_⟩
      rw [hx.ents p hp] at hc
      injection hc with hc
      injection hc with _ hc
      exact hc.symm
    · have e' : j = jm := e
      subst e'
      exact ⟨hx.fj, fun cs ty z hc => absurd rfl (hx.join.ne_cells hc)⟩
end

set_option maxRecDepth 100000 in
set_option maxHeartbeats 1000000 in
theorem settle_nil (id : Int) (t : K3) (w : World) : Calls Try.prog 17 #[.pointer none, .int .i64 id, .agg (aggV (v3 t))] w fun r w' => r = .returned (.slice none 0 0) ∧ Below w.heap.size w w' := by
  obtain ⟨g, hg⟩ : ∃ g, w.heap.size = g := ⟨_, rfl⟩
  go_enter Try.func17, Try.ntmps17
  go_wp2_with (first
    | (refine wpList_box_agg rfl 44 _ rfl g hg (v3 t) rfl ?_; intro w1 h1 l1 t1; have L1 : Hid (Below w.heap.size w w1) := Lib.hid (by rw [hg]; exact l1); clear h1 l1 t1))
  go_ret
  exact ⟨rfl, by first | exact L1.out | (rw [← hg]; exact L1.out)⟩
theorem intK_val (x : Int) : intK.val x = .int .i64 x := rfl
theorem foot_of_below {w w1 w2 : World} {F : Nat → Prop} (hb : Below w.heap.size w w1) (hf : Frm (Foot w1 F) w1 w2) : Frm (Foot w F) w w2 :=
  (Frm.of_below (F := Foot w F) hb).trans hf (fun j hj h => ⟨h.1, fun cs t z hc => h.2 cs t z (kb_below hc hb)⟩)
set_option maxRecDepth 100000 in
set_option maxHeartbeats 2000000 in
theorem settle_cch (F : Nat → Prop) (b : Nat) (S : CA) (id : Int) (t : K3) (w : World) (h : Cch w F b S) (hid : wf64 id) (ht : wf3 t) :
    Calls Try.prog 17 #[.pointer (some ⟨b, 0, none⟩), .int .i64 id, .agg (aggV (v3 t))] w fun r w' => ∃ v, r = .returned v ∧ Ints w' 0 v (S.joined id) ∧ (∀ g, v.ownBlock = some g → F g) ∧ Cch w' (fun j => F j ∧ v.ownBlock ≠ some j) b (S.settle id t) ∧ Frm (Foot w F) w w' := by
  obtain ⟨g, hg⟩ : ∃ g, w.heap.size = g := ⟨_, rfl⟩
  obtain ⟨km, jm, L, n, jf, h⟩ := h
  have HX := Lib.hid h
  have HI := Lib.hid hid
  have HT := Lib.hid ht
  clear h hid ht
  go_enter Try.func17, Try.ntmps17
  go_wp2_with (first
    | (refine wpList_box_agg rfl 44 _ rfl g hg (v3 t) rfl ?_; intro w1 h1 l1 t1; have L1 : Hid (Below w.heap.size w w1) := Lib.hid (by rw [hg]; exact l1);
       have HX1 := Lib.hid (HX.out.keep (fun j o ho _ _ => kb_below ho L1.out)); have H1 := Lib.hid h1; have T1 := Lib.hid t1; obtain ⟨c0, c1⟩ := HX1.out.cells; have hkeys := HX1.out.keys; clear h1 l1 t1)
    | (at_range; refine wpList_rangeV (K := keyK) rfl _ 58 68 rfl key_map rfl hkeys ?_; intro w0 hrg0 hb0 hs0)
    | go_in)
  go_frame
  have ST := Lib.hid (Stl.start HX1.out id t hrg0 hb0)
  obtain ⟨r, hr⟩ : ∃ r, w1.heap.size = r := ⟨_, rfl⟩
  rw [hr] at ST ⊢
  have hgr : g < r := by have := T1.out; omega
  clear hrg0 hb0 hs0 c0 c1 hkeys
  go_loopg [8] L.length (fun k v8 wr => ∃ (left : K3 → Bool) (cnt : Nat), cnt ≤ k ∧ Stl w1 wr km r L id t left cnt)
  case atStart => exact ⟨_, _, Nat.le_refl _, ST.out⟩
  case round =>
    obtain ⟨left, cnt, hk, hc⟩ := hrel
    have HC := Lib.hid hc
    have HK := Lib.hid hk
    have hrg := hc.rg
    clear hc hk ST
    go_wp2_with (first
      | (at_next; refine wpList_nextV (K := keyK) rfl _ rfl rfl hrg ?_ ?_)
      | go_in)
    · intro hl0
      obtain ⟨v, hv⟩ : ∃ v, (jf id).getD (.slice none 0 0) = v := ⟨_, rfl⟩
      have hjm : wr.heap[jm]? = w1.heap[jm]? := HC.out.frm.block jm HX1.out.join.lt (fun ⟨p, hp, e⟩ => HX1.out.join.ne_cells (HX1.out.ents p hp) e)
      have hlk : (Instr.lookup 59 (.map (some jm)) (.int .i64 id) false).run Try.prog wr = .ok v wr := by
        have := HX1.out.join.look (w' := wr) (x := id) HI.out join_map row_zero hjm
        rw [hv] at this
        exact this
      obtain ⟨w2, hdl, hm2, ht2⟩ := (HX1.out.join.keep hjm).drop (x := id) HI.out join_map 0
      have hdl' : (Builtin.delete_ #[59, 3] 0 #[.map (some jm), .int .i64 id]).run Try.prog wr = .ok (.tuple #[]) w2 := hdl
      have HD := Lib.hid (HC.out.done HX1.out hl0 HI.out HT.out hv hm2 (turned_frm ht2))
      have c1 : wr.cell? ⟨b, 1, none⟩ = some (.map (some jm)) := vobj_cell (vs := [.map (some km), .map (some jm)]) ((HC.out.frm.block b (heap_lt HX1.out.blk) (fun ⟨p, hp, e⟩ => by
        have h1 := HX1.out.ents p hp
        rw [e, HX1.out.blk] at h1
        injection h1 with h1
        injection h1 with _ h1
        exact absurd h1 (by decide))).trans HX1.out.blk) rfl
      clear hrg hl0 hjm hm2 ht2 hdl hv
      go_wp2
      go_ret
      exact ⟨v, rfl, HD.out.1, HD.out.2.1, HD.out.2.2.1, foot_of_below (by first | exact L1.out | (rw [hg]; exact L1.out)) HD.out.2.2.2⟩
    · intro x v w2 cnt1 hx hlx hfx hrg1 hlt hf1 hs1 hen
      rw [keyK_val] at hen
      rw [keyK_val]
      obtain ⟨p, hp, hpx, rfl⟩ := ptrs_some hfx
      have he2 : w2.heap[p.2]? = some (eobj p.1) := by
        have h1 := HC.out.ent p hp
        rw [hf1.block _ (heap_lt h1) (HC.out.rg.ne_cells h1).2, h1]
        unfold onway
        rw [hpx, hlx]
        rfl
      have ht2 : w2.heap[g]? = some (vobj 44 (v3 t)) := by
        have h0 : wr.heap[g]? = some (vobj 44 (v3 t)) := by
          rw [HC.out.frm.block g (heap_lt H1.out) (fun ⟨q, hq, e⟩ => ?_)]
          · exact H1.out
          · have h1 := HX1.out.ents q hq
            rw [e, H1.out] at h1
            injection h1 with h1
            injection h1 with _ h1
            exact absurd h1 (by decide)
        rw [hf1.block g (heap_lt h0) (show ¬ (g = r) by omega), h0]
      obtain ⟨e0, e1, e2, e3, e4⟩ := cellsE he2
      have f1 := vobj_frozen he2 1
      have f2 := vobj_frozen he2 2
      have f3 := vobj_frozen he2 3
      have f4 := vobj_frozen he2 4
      obtain ⟨d0, d1, d2⟩ := cells3 ht2
      have hgp : g ≠ p.2 := by
        intro e
        rw [e, he2] at ht2
        injection ht2 with ht2
        injection ht2 with _ ht2
        exact absurd ht2 (by decide)
      have hpg := hgp.symm
      have RG1 := Lib.hid hrg1
      have HLT := Lib.hid hlt
      have HF1 := Lib.hid hf1
      have HLX := Lib.hid hlx
      have HP := Lib.hid hp
      have HPX := Lib.hid hpx
      have HE2 := Lib.hid he2
      have HRW : Hid (w1.heap.size ≤ r) := Lib.hid (by omega)
      clear hrg hrg1 hlt hf1 hx hlx hfx hs1 he2 ht2 hp hpx
      by_cases hxs : p.1.id = id
      · have hb1 : (p.1.id == id) = true := by simp [hxs]
        have HXS := Lib.hid hxs
        clear hxs
        go_wp2
        go_region
        all_goals go_wp2
        all_goals go_roundg cnt1
        all_goals first
          | (have := HK.out; have := HLT.out; omega)
          | exact ⟨_, cnt1, Nat.le_refl _, HC.out.tell HX1.out.pair HX1.out.apart HP.out HPX.out HXS.out RG1.out HF1.out HRW.out (Frm.trans (Frm.of_ali (F := (· = p.2)) (drew_ali w2)) (sets_ent_frm w2.drew p.2 _ _ _ _) (fun _ _ h => h)) (sets_ent (w := w2.drew) HE2.out t)⟩
      · have hb1 : (p.1.id == id) = false := by simp [hxs]
        have HXS := Lib.hid hxs
        clear hxs
        go_wp2
        go_roundg cnt1
        case measure => have := HK.out; have := HLT.out; omega
        case rel => exact ⟨_, cnt1, Nat.le_refl _, HC.out.pass HX1.out.pair HP.out HPX.out HLX.out HXS.out RG1.out HF1.out HRW.out⟩
end Go.Proofs.Ytlphahkmibhidaa
