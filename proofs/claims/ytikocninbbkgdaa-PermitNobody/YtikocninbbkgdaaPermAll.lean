/- Contracts: slices.SortFunc over holders, and permit's All. -/
import Derived.Test.YtikocninbbkgdaaPermSort
import Derived.Test.YtikocninbbkgdaaRecSort
import Derived.Test.YtikocninbbkgdaaInts
namespace Go.Proofs.Ytikocninbbkgdaa
set_option linter.unusedVariables false
open Go.ChangeShapes Go.WideShapes Go.ChangeAt Go.RowKit

def hrec : Rec Hol := rec2 .i64 .i64
/-- The value of compare, as a function. -/
abbrev cmpV : Value := .func (.func 26) #[] #[]
theorem ins_nil (w : World) : Calls Try.prog 32 #[.slice none 0 0, .int .i64 0, .int .i64 0, cmpV] w fun r w' => r = .returned (.tuple #[]) ∧ w' = w := by
  go_enter Try.func32, Try.ntmps32
  go_wp2
  refine wp_loop_rounds 1 ?_
  rw [rounds_succ]
  go_wp2
  go_end0
  exact ⟨rfl, rfl⟩
set_option maxHeartbeats 1000000 in
theorem pdq_nil (lim : Int) (w : World) : Calls Try.prog 28 #[.slice none 0 0, .int .i64 0, .int .i64 0, .int .i64 lim, cmpV] w fun r w' => r = .returned (.tuple #[]) ∧ w' = w := by
  have hi := ins_nil w
  go_enter Try.func28, Try.ntmps28
  go_wp2
  refine wp_loop_rounds 1 ?_
  rw [rounds_succ]
  go_wp2_with (go_at_call 32; refine hi.mono ?_; rintro r w' ⟨rfl, rfl⟩)
  (try simp only [Exit.inBlock, Exit.then])
  refine bodyPost_ret (results_none rfl _ _ _) rfl ?_
  exact ⟨rfl, rfl⟩
set_option maxHeartbeats 1000000 in
theorem pdq_some (blk cap : Nat) (d : Array Hol) (lim : Int) (w : World) (hH : Sort.HoldsK hrec.cells hrec.size w blk 0 d) (hblk : blk < w.heap.size) (h12 : d.size ≤ 12) :
    Calls Try.prog 28 #[.slice (some ⟨blk, 0, none⟩) d.size cap, .int .i64 0, .int .i64 d.size, .int .i64 lim, cmpV] w fun r w' => r = .returned (.tuple #[]) ∧ ∃ n os, w' = sortWorldK hrec.cells hrec.size w blk 0 n (Sort.insertionSort ltH d 0 d.size) os := by
  have hi := ins_any blk 0 cap d w hH hblk h12
  change Calls _ _ _ _ fun r w' => r = _ ∧ ∃ n os, w' = sortWorldK hrec.cells hrec.size w blk 0 n _ os at hi
  generalize Sort.insertionSort ltH d 0 d.size = d' at hi ⊢
  clear hH
  go_enter Try.func28, Try.ntmps28
  go_wp2
  refine wp_loop_rounds 1 ?_
  rw [rounds_succ]
  go_wp2_with (go_at_call 32; refine hi.mono ?_; rintro r w' ⟨rfl, n, os, rfl⟩)
  (try simp only [Exit.inBlock, Exit.then])
  refine bodyPost_ret (results_none rfl _ _ _) rfl ?_
  exact ⟨rfl, n, os, rfl⟩
theorem sort_nil (w : World) : Calls Try.prog 25 #[.slice none 0 0, cmpV] w fun r w' => r = .returned (.tuple #[]) ∧ w' = w := by
  have hl := len_uint 0 w (by omega) (by omega)
  have hp := fun lim => pdq_nil lim w
  go_enter Try.func25, Try.ntmps25
  go_wp2_with (first | (go_at_call 29; refine hl.mono ?_; rintro r w' ⟨⟨l, rfl⟩, rfl⟩) | (go_at_call 28; refine (hp _).mono ?_; rintro r w' ⟨rfl, rfl⟩))
  go_end0
  exact ⟨rfl, rfl⟩
theorem sort_some (blk cap : Nat) (d : Array Hol) (w : World) (hH : Sort.HoldsK hrec.cells hrec.size w blk 0 d) (hblk : blk < w.heap.size) (h12 : d.size ≤ 12) :
    Calls Try.prog 25 #[.slice (some ⟨blk, 0, none⟩) d.size cap, cmpV] w fun r w' => r = .returned (.tuple #[]) ∧ ∃ n os, w' = sortWorldK hrec.cells hrec.size w blk 0 n (Sort.insertionSort ltH d 0 d.size) os := by
  have hl := len_uint d.size w (by omega) (by omega)
  have hp := fun lim => pdq_some blk cap d lim w hH hblk h12
  generalize Sort.insertionSort ltH d 0 d.size = d' at hp ⊢
  clear hH
  go_enter Try.func25, Try.ntmps25
  go_wp2_with (first | (go_at_call 29; refine hl.mono ?_; rintro r w' ⟨⟨l, rfl⟩, rfl⟩) | (go_at_call 28; refine (hp _).mono ?_; rintro r w' ⟨rfl, n, os, rfl⟩))
  go_end0
  exact ⟨rfl, n, os, rfl⟩
/-- Unlike holders, sorted: the rising list of them, in the same block; nothing else has turned. -/
theorem sort_own (base : Nat) (v : Value) (K L : List Hol) (w : World) (own : OwnR hrec w base 39 v K) (h12 : K.length ≤ 12) (hn : K.Nodup) (hL : Rise L) (hm : ∀ x, x ∈ K ↔ x ∈ L) :
    Calls Try.prog 25 #[v, cmpV] w fun r w' => r = .returned (.tuple #[]) ∧ OwnR hrec w' base 39 v L ∧ Frm (fun j => v.ownBlock = some j) w w' := by
  rcases own.1.2 with ⟨rfl, h0⟩ | ⟨g, cap, cur, rfl, hb, hg, hnc, hcm, hcs, ht⟩
  · have hK : K = [] := List.eq_nil_of_length_eq_zero h0
    subst hK
    have hL0 : L = [] := by
      cases L with
      | nil => rfl
      | cons x L => have := (hm x).2 (by simp); simp at this
    subst hL0
    refine (sort_nil w).mono ?_
    rintro r w' ⟨rfl, rfl⟩
    exact ⟨rfl, own, Frm.refl _ _⟩
  · have hs := sort_some g cap K.toArray w (holds_own hg ht) (heap_lt hg) (by simpa using h12)
    rw [List.size_toArray] at hs
    refine hs.mono ?_
    rintro r w' ⟨rfl, n, os, rfl⟩
    have h := Sort.insertionSort_holds swoH K.toArray 0 K.toArray.size (Nat.zero_le _) (Nat.le_refl _)
    rw [List.size_toArray] at h
    have he := sorted_rise (d := K.toArray) hL (by simpa using hn) (by simpa using hm) (by rw [List.size_toArray]; exact h.1) (by rw [List.size_toArray]; exact h.2)
    have hlen : (Sort.insertionSort ltH K.toArray 0 K.length).toList.length = K.length := by have := h.1.1; simpa using this
    obtain ⟨h1, h2⟩ := own_sorted (R := hrec) (n := n) (os := os) hb hg hnc hcm hcs hlen
    rw [he] at h1
    refine ⟨rfl, h1, h2.mono (fun j _ hj => by rw [hj]; rfl)⟩

theorem hol_slice : Try.prog.underlying 35 = some (.slice 39) := by kernel_rfl
theorem hol_info : (Try.prog.info? 39).map (fun i => (i.zero, i.size, i.bytes)) = some (some (.agg #[.int .i64 0, .int .i64 0]), 2, 16) := by kernel_rfl
/-- A slice of holders of the call's own. -/
abbrev HolR (w : World) (base : Nat) (v : Value) (V : List Hol) : Prop := OwnR hrec w base 39 v V
theorem wpList_appH {ops : Array Oper} {rest : List Oper} {o : Oper} {a : Act} {Q : Exit → Act → World → Prop} {w : World} {base m c : Nat} {v : Value} {V U : List Hol} {A : Option Addr} (hg : o.guard = none) (s x : Operand)
    (ho : o.op = .call { callee := .builtin .append, args := #[s, x], argTypes := #[35, 35] })
    (hsv : a.eval s = v) (hxv : a.eval x = .slice A m c) (own : HolR w base v V) (src : RowR hrec w A m U) (hle : V.length + m ≤ 1048576) (hbase : base ≤ w.heap.size)
    (h : ∀ v' w', HolR w' base v' (V ++ U) → w.grownBy w' v.ownBlock → (v'.ownBlock = v.ownBlock ∨ v'.ownBlock = some w.heap.size) → wpList Try.prog ops Q rest (a.put o.dst v') w') : wpList Try.prog ops Q (o :: rest) a w := by
  obtain ⟨i0, hi0, hz0, hz1, hz2⟩ := info_parts hol_info
  exact wpList_appR hg s x ho hol_slice hi0 hz0 hz1 hz2 rfl (by omega) hsv hxv own src hle hbase h
/-- The holders that have come so far of those that a map has. -/
structure Coll (w wr : World) (m : Nat) (D : DataW Unit) (L : List Hol) (v : Value) (K : List Hol) (left : Lit → Bool) (cnt : Nat) : Prop where
  rg : wr.ranges Try.prog 39 unitElem m w.heap.size L.length D left cnt
  own : HolR wr w.heap.size v K
  nod : K.Nodup
  sub : ∀ x ∈ K, x ∈ L
  lft : ∀ x, wfH x → left (hlit x) = (decide (x ∈ L) && !decide (x ∈ K))
  low : Below w.heap.size w wr
  cnt_le : K.length + cnt ≤ L.length
theorem ranges_blocks {w : World} {P : Program} {k : TypeId} {R : Value → Option (DataW Unit × List MemPlace)} {b r n : Nat} {D : DataW Unit} {left : Lit → Bool} {cnt : Nat} (h : w.ranges P k R b r n D left cnt) {j : Nat} {cs : Array Value} {t : TypeId} (hj : w.heap[j]? = some (.cells cs t (0, 0))) : j ≠ b ∧ j ≠ r := by
  obtain ⟨es, clock, since, seen, c0, hb, _, _, _, hr, _⟩ := h
  constructor
  · rintro rfl; rw [hj] at hb; cases hb
  · rintro rfl; rw [hj] at hr; cases hr
theorem Coll.step {w wr w1 w4 : World} {m : Nat} {D : DataW Unit} {L : List Hol} {v v' : Value} {K : List Hol} {left : Lit → Bool} {cnt cnt1 : Nat} {x : Hol} {o o' : Obj} (h : Coll w wr m D L v K left cnt) (hx : wfH x) (hlx : left (hlit x) = true)
    (hrg1 : w1.ranges Try.prog 39 unitElem m w.heap.size L.length D (fun z => left z && !z.sameKey (hlit x)) cnt1) (hlt : cnt1 < cnt) (hg1 : wr.grownBy w1 (some w.heap.size))
    (hown : HolR w4 w.heap.size v' (K ++ [x])) (hg : ((w1.alloc o).alloc o').grownBy w4 v.ownBlock) : Coll w w4 m D L v' (K ++ [x]) (fun z => left z && !z.sameKey (hlit x)) cnt1 := by
  have hL := h.lft x hx
  rw [hlx] at hL
  have hxL : x ∈ L := by
    by_cases hc : x ∈ L
    · exact hc
    · simp [hc] at hL
  have hxK : x ∉ K := by
    intro hc
    simp [hc] at hL
  have hr3 := (hrg1.alloc o).alloc o'
  have hlow3 : Below w.heap.size w ((w1.alloc o).alloc o') := by
    have h1 : Below w.heap.size w w1 := h.low.grown hg1 h.low.size (fun j hj => by cases hj; exact Nat.le_refl _)
    have h2 := h1.alloc (o := o) h1.size
    exact h2.alloc (o := o') h2.size
  have hvb : ∀ j, v.ownBlock = some j → w.heap.size ≤ j ∧ j ≠ m ∧ j ≠ w.heap.size := fun j hj => by
    obtain ⟨cs, hcs⟩ := h.own.block hj
    have h4 := ranges_blocks h.rg hcs
    exact ⟨h.own.low j hj, h4.1, h4.2⟩
  refine ⟨hr3.kept hg (fun e => (hvb m e.symm).2.1 rfl) (fun e => (hvb _ e.symm).2.2 rfl), hown, ?_, ?_, fun y hy => ?_, hlow3.trans (grown_below hg hlow3.size (fun j hj => (hvb j hj).1)), ?_⟩
  · rw [List.nodup_append]
    exact ⟨h.nod, by simp, fun a ha b hb => by simp at hb; rw [hb]; rintro rfl; exact hxK ha⟩
  · intro y hy
    rcases List.mem_append.1 hy with hy | hy
    · exact h.sub y hy
    · simp at hy; rw [hy]; exact hxL
  · show (left (hlit y) && !(hlit y).sameKey (hlit x)) = _
    rw [h.lft y hy]
    by_cases hc : y = x
    · subst hc
      have : (hlit y).sameKey (hlit y) = true := by
        rw [hlit]; simp [Lit.sameKey]
      simp [this]
    · have hne : hlit y ≠ hlit x := fun e => hc (hlit_inj hy hx e)
      rw [Maps.sameKey_ne hne]
      simp [hc]
  · have := h.cnt_le
    simp
    omega
theorem all_none (w : World) : Calls Try.prog 14 #[.pointer none] w fun r w' => r = .returned (.slice none 0 0) ∧ w' = w := by
  go_enter Try.func14, Try.ntmps14
  go_wp2
  go_ret
  exact ⟨rfl, rfl⟩
set_option maxHeartbeats 2000000 in
theorem all_prm (b m most : Nat) (L : List Hol) (w : World) (h : Prm w b m most L) :
    Calls Try.prog 14 #[.pointer (some ⟨b, 0, none⟩)] w fun r w' => ∃ v, r = .returned v ∧ HolR w' w.heap.size v L ∧ Below w.heap.size w w' := by
  obtain ⟨D, hown, hsz, hhas⟩ := h.mp.ex
  obtain ⟨c0, c1⟩ := h.cells
  have HS := Lib.hid hsz
  have HH := Lib.hid hhas
  have HR := Lib.hid h.rise
  have HWF := Lib.hid h.wf
  have hl8 : L.length ≤ 8 := Nat.le_trans h.le h.le8
  clear h hsz hhas c0
  go_enter Try.func14, Try.ntmps14
  go_wp2_with (first
    | (at_range; refine wpList_range_own _ rfl _ 49 rfl 39 56 hol_keyed hol_map _ m L.length D rfl hown ?_; intro w0 hrg0 hg0 hs0)
    | go_in)
  go_frame
  have start : Coll w w0 m D L (.slice none 0 0) [] (Maps.has D) (Maps.size D) :=
    ⟨hrg0, OwnR.nil _ _ _, by simp, by simp, fun x hx => by rw [HH.out x hx]; simp, (Below.refl _ _).grown hg0 (Nat.le_refl _) (fun j hj => by cases hj), by rw [HS.out]; simp⟩
  have ST := Lib.hid start
  clear start hrg0 hg0 hs0
  go_loopg [3] L.length (fun k v3 wr => ∃ (left : Lit → Bool) (cnt : Nat) (K : List Hol), cnt ≤ k ∧ Coll w wr m D L v3 K left cnt)
  case atStart => exact ⟨_, _, [], by rw [HS.out]; exact Nat.le_refl _, ST.out⟩
  case round =>
    obtain ⟨left, cnt, K, hk, hc⟩ := hrel
    have HC := Lib.hid hc
    have HK := Lib.hid hk
    have hrg := hc.rg
    clear hc hk
    go_wp2_with (first
      | (at_next; refine wpList_next_ranges _ rfl _ rfl 39 hol_keyed unitElem hv (fun _ : Unit => Value.agg #[]) (fun key kl hkey => by obtain ⟨x, e, _⟩ := hol_key_inv hkey; exact ⟨x, e⟩) (fun v y hv => ⟨(), (unitElem_inv hv).1⟩) m w.heap.size L.length D _ _ rfl hrg ?_ ?_)
      | go_in)
    · intro hc0 hl0
      have hmm : ∀ x, x ∈ K ↔ x ∈ L := fun x => ⟨HC.out.sub x, fun hx => by
        have hl := hl0 (hlit x)
        rw [HC.out.lft x (HWF.out x hx)] at hl
        simpa [hx] using hl⟩
      have hs := sort_own w.heap.size _ K L wr HC.out.own (by have := HC.out.cnt_le; omega) HC.out.nod HR.out hmm
      clear hmm hl0 hc0 hrg
      go_wp2_with fail
      refine hs.mono ?_
      clear hs
      rintro r w2 ⟨rfl, ho, hf⟩
      have HO := Lib.hid ho
      have HB : Hid (Below w.heap.size w w2) := Lib.hid (HC.out.low.trans (hf.below HC.out.low.size (fun j hj e => by have := HC.out.own.low j e; omega)))
      clear ho hf
      go_wp2
      go_ret
      exact ⟨_, rfl, HO.out, HB.out⟩
    · intro a1 a2 kl y ps w1 cnt1 hkey hlx hvx hat hrg1 hlt hg1 hs1 hen
      obtain ⟨x', e, hwx, rfl⟩ := hol_key_inv hkey
      obtain rfl := hv_inj e
      have e1 : (w1.alloc (hobj (a1, a2))).heap.size = w1.heap.size + 1 := by simp
      have src := RowR.one (R := hrec) (w1.alloc (hobj (a1, a2))) ((a1, a2) : Hol) 39 (cs := #[.int .i64 a1, .int .i64 a2]) rfl
      rw [e1] at src
      have own1 : HolR w1 w.heap.size _ K := HC.out.own.frm (Frm.of_grown (F := (· = w.heap.size)) hg1 rfl) (fun j hj cs hcs => (ranges_blocks HC.out.rg hcs).2 hj)
      have own3 := (own1.alloc (hobj (a1, a2))).alloc (hobj (a1, a2))
      have hszw : w.heap.size ≤ ((w1.alloc (hobj (a1, a2))).alloc (hobj (a1, a2))).heap.size := by have := HC.out.low.size; have := hg1.size; simp; omega
      have SRC := Lib.hid src
      have OWN := Lib.hid own3
      have HSZ := Lib.hid hszw
      have HX := Lib.hid hlx
      have HG1 := Lib.hid hg1
      have HRG1 := Lib.hid hrg1
      have HLT := Lib.hid hlt
      unfold hv at hen
      unfold hv
      clear src own1 own3 hszw hlx hg1 hrg1 hlt hrg hkey e hvx hat hs1 e1
      go_wp2_with (first
        | (at_builtin
           refine wpList_appH (base := w.heap.size) rfl (.tmp 16) (.tmp 18) rfl rfl rfl OWN.out SRC.out (by have := HC.out.cnt_le; omega) HSZ.out ?_
           intro v' w4 own' gr' _
           have O4 := Lib.hid own'
           have G4 := Lib.hid gr'
           clear own' gr'))
      go_roundg cnt1
      case measure => have := HK.out; have := HLT.out; omega
      case rel => exact ⟨_, cnt1, K ++ [(a1, a2)], Nat.le_refl _, HC.out.step hwx HX.out HRG1.out HLT.out HG1.out O4.out G4.out⟩
end Go.Proofs.Ytikocninbbkgdaa
