/- Events as records; the contract of health's Of. -/
import Derived.Test.YtfncipoiblieeaaHea
import Derived.Test.YtfncipoiblieeaaPairs
import Derived.Deep.LoopGhost
namespace Go.Proofs.Ytfncipoiblieeaa
set_option linter.unusedVariables false
open Go.ChangeShapes Go.WideShapes Go.ChangeAt Go.RowKit Go.Deep

/-- An event: when, and of what kind. -/
structure Ev where
  tm : Nat
  kind : Int
def Ev.Fits (e : Ev) : Prop := e.tm ≤ 18446744073709551615 ∧ wf64 e.kind
def erec : Rec Ev := ⟨fun x => [.int .u64 x.tm, .int .i64 x.kind], 2, by decide, fun _ => rfl, fun a u hu => by simp at hu; rcases hu with rfl | rfl <;> rfl⟩
theorem RowR.ev_at {w : World} {A : Option Addr} {n : Nat} {V : List Ev} (h : RowR erec w A n V) {i : Nat} (hi : i < n) : ∃ b off x, A = some ⟨b, off, none⟩ ∧ V[i]? = some x ∧ b < w.heap.size ∧ w.cell? ⟨b, off + i * 2, none⟩ = some (.int .u64 x.tm) ∧ w.cell? ⟨b, off + i * 2 + 1, none⟩ = some (.int .i64 x.kind) := by
  obtain ⟨b, off, a, hA, hV, hlt, hc⟩ := h.at_ hi
  exact ⟨b, off, a, hA, hV, hlt, hc 0 _ rfl, hc 1 _ rfl⟩
theorem evs_in {w : World} {bytes : Nat} {a : Option Addr} {l k : Nat} {D : List (List Value)} (h : SliceIn w [.int .u64, .int .i64] bytes a l k D) : ∃ V : List Ev, RowR erec w a l V ∧ (∀ x ∈ V, x.Fits) ∧ l ≤ k ∧ k ≤ maxLen := by
  refine rows_in (R := erec) (Ft := Ev.Fits) rfl (fun vs hv => ?_) h
  obtain _ | ⟨v0, vs⟩ := vs
  · exact hv.elim
  obtain ⟨⟨a, rfl, ha⟩, hv⟩ := hv
  obtain _ | ⟨v1, vs⟩ := vs
  · exact hv.elim
  obtain ⟨⟨b, rfl, hb⟩, hv⟩ := hv
  obtain _ | ⟨v2, vs⟩ := vs
  · have ha' := wf_u64 ha
    exact ⟨⟨a.toNat, b⟩, by simp [erec, Int.toNat_of_nonneg ha'.1], ⟨by show a.toNat ≤ _; omega, bounds_i64 hb⟩⟩
  · exact hv.elim

/-! ### counts as a function of the kind -/
def K5.of (c : Nat → Int) : K5 := ⟨c 0, c 1, c 2, c 3, c 4⟩
def updK (c : Nat → Int) (k : Nat) (x : Int) : Nat → Int := fun i => if i = k then x else c i
theorem K5.of_at (c : Nat → Int) {k : Nat} (hk : k < 5) : (K5.of c).vals[k]? = some (.int .u64 (c k)) := by
  rcases (show k = 0 ∨ k = 1 ∨ k = 2 ∨ k = 3 ∨ k = 4 by omega) with rfl | rfl | rfl | rfl | rfl <;> rfl
theorem K5.of_set (c : Nat → Int) {k : Nat} (hk : k < 5) (x : Int) : (K5.of c).vals.set k (.int .u64 x) = (K5.of (updK c k x)).vals := by
  rcases (show k = 0 ∨ k = 1 ∨ k = 2 ∨ k = 3 ∨ k = 4 by omega) with rfl | rfl | rfl | rfl | rfl <;> rfl
theorem K5.of_congr {c d : Nat → Int} (h : ∀ k, k < 5 → c k = d k) : K5.of c = K5.of d := by
  unfold K5.of
  rw [h 0 (by omega), h 1 (by omega), h 2 (by omega), h 3 (by omega), h 4 (by omega)]
theorem K5.of_fits {c : Nat → Int} (h : ∀ k, k < 5 → 0 ≤ c k ∧ c k ≤ 18446744073709551615) : (K5.of c).Fits := ⟨h 0 (by omega), h 1 (by omega), h 2 (by omega), h 3 (by omega), h 4 (by omega)⟩

/-- Whether an event is told at the bucket b: of the kind k, in one of the last B buckets of W ticks. -/
def Ev.inn (b B W : Nat) (k : Int) (e : Ev) : Bool := decide (e.kind = k ∧ e.tm / W ≤ b ∧ b < e.tm / W + B)
def hits (l : List Ev) (b B W k : Nat) : Nat := l.countP (Ev.inn b B W k)
theorem hits_le (l : List Ev) (b B W k : Nat) : hits l b B W k ≤ l.length := List.countP_le_length
theorem hits_snoc (l : List Ev) (e : Ev) (b B W k : Nat) : hits (l ++ [e]) b B W k = hits l b B W k + if Ev.inn b B W k e = true then 1 else 0 := by
  unfold hits
  rw [List.countP_append, List.countP_singleton]
theorem hits_take {l : List Ev} {i : Nat} {e : Ev} (h : l[i]? = some e) (b B W k : Nat) : hits (l.take (i + 1)) b B W k = hits (l.take i) b B W k + if Ev.inn b B W k e = true then 1 else 0 := by
  have e1 : l.take (i + 1) = l.take i ++ [e] := by rw [List.take_add_one, h]; rfl
  rw [e1, hits_snoc]
/-- What the events are told to be. -/
def ofK (l : List Ev) (now : Nat) (B : Int) (W : Nat) : K5 := if B < 1 ∨ W = 0 then K5.zero else K5.of (fun k => hits l (now / W) B.toNat W k)
theorem ofK_fits (l : List Ev) (now : Nat) (B : Int) (W : Nat) (hl : l.length ≤ 1000) : (ofK l now B W).Fits := by
  unfold ofK
  split
  · exact K5.zero_fits
  · refine K5.of_fits fun k _ => ?_
    have := hits_le l (now / W) B.toNat W k
    omega

theorem hits_out {l : List Ev} {i : Nat} {e : Ev} (h : l[i]? = some e) (b B W : Nat) (hn : ∀ k : Nat, k < 5 → Ev.inn b B W k e = false) :
    K5.of (fun k => (hits (l.take (i + 1)) b B W k : Int)) = K5.of (fun k => (hits (l.take i) b B W k : Int)) :=
  K5.of_congr fun k hk => by rw [hits_take h, hn k hk]; rfl
theorem hits_in {l : List Ev} {i : Nat} {e : Ev} (h : l[i]? = some e) (b B W k : Nat) (he : e.kind = k) (h1 : e.tm / W ≤ b) (h2 : b < e.tm / W + B) :
    K5.of (updK (fun k => (hits (l.take i) b B W k : Int)) k ((hits (l.take i) b B W k : Int) + 1)) = K5.of (fun k => (hits (l.take (i + 1)) b B W k : Int)) :=
  K5.of_congr fun j hj => by
    show updK _ k _ j = ((hits (l.take (i + 1)) b B W j : Nat) : Int)
    rw [hits_take h]
    unfold updK Ev.inn
    dsimp only
    by_cases hjk : j = k
    · subst hjk
      rw [if_pos rfl, if_pos (by simp [he]; omega)]; omega
    · rw [if_neg hjk, if_neg (by simp only [decide_eq_true_eq]; omega)]; omega

set_option maxHeartbeats 2000000 in
theorem of_any (A : Option Addr) (n c : Nat) (V : List Ev) (now : Nat) (B : Int) (W : Nat) (w : World) (hr : RowR erec w A n V) (hn : n ≤ 1000) (hnow : now ≤ 18446744073709551615) (hB : wf64 B) (hW : W ≤ 18446744073709551615) (hV : ∀ x ∈ V, x.Fits) :
    Calls Try.prog 18 #[.slice A n c, .int .u64 now, .int .i64 B, .int .u64 W] w fun r w' => r = .returned (.agg (aggV (ofK V now B W).vals)) ∧ Below w.heap.size w w' := by
  obtain ⟨g, hg⟩ : ∃ g, w.heap.size = g := ⟨_, rfl⟩
  have HG := Lib.hid hg
  have HLN := Lib.hid hr.1
  unfold wf64 at hB
  have HSZ := Lib.hid (sizeK5 K5.zero)
  have HZO := Lib.hid K5.zero.ones
  have HAK := Lib.hid allocK
  by_cases h1 : B < 1 ∨ W = 0
  · have he : ofK V now B W = K5.zero := by unfold ofK; rw [if_pos h1]
    rw [he]
    clear he
    obtain ⟨zv, hz⟩ : ∃ zv, K5.zero.vals = zv := ⟨_, rfl⟩
    rw [hz] at HSZ HAK HZO
    have h2 : (B < 1) ∨ (¬ B < 1 ∧ ((W : Int) == 0) = true) := by
      by_cases hb : B < 1
      · exact .inl hb
      · exact .inr ⟨hb, by simp; omega⟩
    have HZ := Lib.hid hz
    clear h1 hz
    rcases h2 with hb | ⟨hb, hw0⟩
    all_goals
      go_enter Try.func18, Try.ntmps18
      go_wp2_with (first
        | (refine wpList_alloc_agg rfl 23 rfl g hg zv (HAK.out _) ?_; intro w1 h1 b1 s1)
        | (refine wpList_alloc_agg rfl 23 rfl (g + 1) s1 zv (HAK.out _) ?_; intro w2 h2 b2 s2; have h1' := kb_below h1 (b2.mono (by omega)); have B2 := Lib.hid (b1.trans (b2.mono (by omega : g ≤ g + 1))); clear b1 b2)
        | (refine wpList_load_agg rfl 23 _ rfl (g + 1) rfl zv h2 _ undK rfl HSZ.out ?_)
        | (refine wpList_store_agg rfl 23 _ _ rfl g zv zv rfl rfl h1' rfl HSZ.out HZO.out ?_; intro w4 h4 f4 s4))
      rw [← HZ.out] at h4 ⊢
      refine bodyPost_ret (v := .agg (aggV K5.zero.vals)) (results_agg Try.results18 rfl (loadK5 h4)) rfl ⟨rfl, ?_⟩
      try rw [HG.out]
      exact B2.out.trans (f4.below (by omega) (fun j hj e => by omega))
  · have hb1 : ¬ B < 1 := fun h => h1 (.inl h)
    have hw0 : ((W : Int) == 0) = false := by simp; omega
    have hwn : ¬ W = 0 := fun h => h1 (.inr h)
    obtain ⟨b, rfl⟩ : ∃ b : Nat, B = b := ⟨B.toNat, by omega⟩
    have he : ofK V now b W = K5.of (fun k => hits V (now / W) b W k) := by unfold ofK; rw [if_neg h1]; rfl
    rw [he]
    obtain ⟨q, hq⟩ : ∃ q, now / W = q := ⟨_, rfl⟩
    have hqm : q ≤ now := by rw [← hq]; exact Nat.div_le_self _ _
    have hwq : IntKind.u64.wrap ((now : Int) / (W : Int)) = (q : Int) := by rw [← Int.natCast_ediv, hq, IntKind.wrap_u64]; omega
    rw [hq]
    have HE0 : Hid (K5.zero = K5.of (fun k => (hits (V.take 0) q b W k : Int))) := Lib.hid rfl
    have HLL : Hid (∀ K : K5, K5.zero.vals.length = K.vals.length) := Lib.hid (fun _ => rfl)
    have HVV := Lib.hid hV
    have HR := Lib.hid hr
    generalize K5.zero = kz at *
    clear he hq h1 hV hr
    go_enter Try.func18, Try.ntmps18
    go_wp2_with (first
      | (refine wpList_alloc_agg rfl 23 rfl g hg kz.vals (HAK.out _) ?_; intro w1 h1 b1 s1)
      | (refine wpList_alloc_agg rfl 23 rfl (g + 1) s1 kz.vals (HAK.out _) ?_; intro w2 h2 b2 s2; have h1' := kb_below h1 (b2.mono (by omega)); have B2 := Lib.hid (b1.trans (b2.mono (by omega : g ≤ g + 1))); clear b1 b2 h1 s1))
    go_loopg [26] n (fun k v26 wr => ∃ i : Nat, i + k = n ∧ v26 = .int .i64 i ∧ wr.heap[g + 1]? = some (vobj 23 (K5.of (fun k => (hits (V.take i) q b W k : Int))).vals) ∧ wr.heap[g]? = some (vobj 23 kz.vals) ∧ Below g w wr ∧ g + 2 ≤ wr.heap.size)
    case atStart => exact ⟨0, by omega, rfl, by rw [← HE0.out]; exact h2, h1', B2.out, by omega⟩
    case round =>
      obtain ⟨i, hi, rfl, k1, k0, hbl, hsz⟩ := hrel
      have HI := Lib.hid hi
      have K1 := Lib.hid k1
      have K0 := Lib.hid k0
      have BL := Lib.hid hbl
      clear hi k1 k0 hbl h2 h1' B2 s2
      by_cases hlt : i < n
      · have hlt' : (i : Int) < n := by omega
        obtain ⟨blk, off, e, rfl, hz, hbw, q0, q1⟩ := HR.out.ev_at hlt
        have p0 := cell_later (BL.out.mono (by omega)) q0
        have p1 := cell_later (BL.out.mono (by omega)) q1
        have hef := HVV.out e (List.mem_of_getElem? hz)
        have HZ := Lib.hid hz
        clear hz q0 q1
        have K1a := Lib.hid (kb_alloc K1.out (.cells #[.int .u64 e.tm, .int .i64 e.kind] 60))
        have K0a := Lib.hid (kb_alloc K0.out (.cells #[.int .u64 e.tm, .int .i64 e.kind] 60))
        have BLa := Lib.hid (BL.out.alloc (by omega) (.cells #[.int .u64 e.tm, .int .i64 e.kind] 60))
        have SZa : Hid (g + 2 ≤ (wr.alloc (.cells #[.int .u64 e.tm, .int .i64 e.kind] 60)).heap.size) := Lib.hid (by simp; omega)
        clear K1 K0 BL
        obtain ⟨t, ht⟩ : ∃ t, e.tm / W = t := ⟨_, rfl⟩
        have htm : t ≤ 18446744073709551615 := by rw [← ht]; exact Nat.le_trans (Nat.div_le_self _ _) hef.1
        have hwt : IntKind.u64.wrap ((e.tm : Int) / (W : Int)) = (t : Int) := by rw [← Int.natCast_ediv, ht, IntKind.wrap_u64]; omega
        have hef2 := hef.2
        unfold wf64 at hef2
        by_cases hin : (0 ≤ e.kind ∧ e.kind < 5) ∧ t ≤ q ∧ q < t + b
        · obtain ⟨⟨k1, k2⟩, k3, k4⟩ := hin
          obtain ⟨k, hk⟩ : ∃ k : Nat, e.kind = k := ⟨e.kind.toNat, by omega⟩
          have hx := Lib.hid (hits_in HZ.out q b W k hk (by omega) (by omega))
          have hk5 : k < 5 := by omega
          have hkb := hits_le (V.take i) q b W k
          have hset := Lib.hid (vobj_set K1a.out k (.int .u64 ((hits (V.take i) q b W k : Int) + 1)))
          rw [K5.of_set _ hk5, hx.out] at hset
          have c1 := vobj_cell K1a.out (K5.of_at _ hk5)
          have c2 := vobj_frozen K1a.out k
          have hln := HLN.out
          rw [List.length_take] at hkb
          have FR := Lib.hid ((Frm.refl (· = g + 1) (wr.alloc (.cells #[.int .u64 e.tm, .int .i64 e.kind] 60))).set (F := (· = g + 1)) (p := ⟨g + 1, k, none⟩) rfl (.int .u64 ((hits (V.take i) q b W k : Int) + 1)))
          rw [hk] at p1 K1a K0a BLa SZa hset c1 c2 FR
          clear hx
          generalize hits (V.take i) q b W k = x at *
          have hwx : IntKind.u64.wrap ((x : Int) + 1) = (x : Int) + 1 := by rw [IntKind.wrap_u64]; omega
          have hwd : IntKind.u64.wrap ((q : Int) - (t : Int)) = ((q - t : Nat) : Int) := by rw [IntKind.wrap_u64]; omega
          have hwb : IntKind.u64.wrap (b : Int) = (b : Int) := by rw [IntKind.wrap_u64]; omega
          have d1 : q - t < b := by omega
          have e1 : ¬ (k : Int) < 0 := by omega
          have e2 : ¬ (5 : Int) ≤ (k : Int) := by omega
          have e3 : (k : Int) < 5 := by omega
          clear hk hkb hln hef2 k1 k2 ht htm hef
          go_wp2
          go_roundg (n - (i + 1))
          case measure => have := HI.out; omega
          case rel =>
            have hsa := SZa.out
            refine ⟨i + 1, by omega, by simp, hset.out, ?_, ?_, ?_⟩
            · rw [FR.out.block g (by omega) (by omega)]; exact K0a.out
            · exact BLa.out.trans (FR.out.below (by omega) (fun j hj e => by omega))
            · exact Nat.le_trans SZa.out FR.out.size
        · have ho := hits_out HZ.out q b W (fun k hk => by
            unfold Ev.inn
            rw [decide_eq_false_iff_not]
            omega)
          have HO := Lib.hid ho
          clear ho
          have hB0 : ∀ j : Nat, e.kind = j → j < 5 → t ≤ q → ¬ q - t < b := fun j h1 h2 h3 h4 => hin ⟨⟨by omega, by omega⟩, h3, by omega⟩
          have hwb : IntKind.u64.wrap (b : Int) = (b : Int) := by rw [IntKind.wrap_u64]; omega
          have hwd : t ≤ q → IntKind.u64.wrap ((q : Int) - (t : Int)) = ((q - t : Nat) : Int) := by intro h; rw [IntKind.wrap_u64]; omega
          generalize hkk : e.kind = k at *
          generalize e.tm = tm at *
          have hcs : k < 0 ∨ 5 ≤ k ∨ (0 ≤ k ∧ k < 5 ∧ ¬ t ≤ q) ∨ (0 ≤ k ∧ k < 5 ∧ t ≤ q ∧ ¬ q - t < b ∧ IntKind.u64.wrap ((q : Int) - (t : Int)) = ((q - t : Nat) : Int)) := by
            by_cases h : t ≤ q
            · have := hwd h
              omega
            · omega
          clear hin hB0
          rcases hcs with h | h | ⟨h, h', h''⟩ | ⟨h, h', h'', h3, h4⟩
          all_goals clear hwd hef hef2 ht htm
          all_goals go_wp2
          all_goals go_roundg (n - (i + 1))
          all_goals first
            | (case measure => have := HI.out; omega)
            | (refine ⟨i + 1, by omega, by simp, ?_, K0a.out, BLa.out, SZa.out⟩; rw [HO.out]; exact K1a.out)
      · have hlt' : ¬ (i : Int) < n := by omega
        obtain rfl : i = n := by have := HI.out; omega
        have hV0 : V.take i = V := List.take_of_length_le (by rw [HLN.out]; omega)
        rw [hV0] at K1
        have k1 := K1.out
        have k0 := K0.out
        obtain ⟨kr, hkr⟩ : ∃ kr, K5.of (fun k => (hits V q b W k : Int)) = kr := ⟨_, rfl⟩
        rw [hkr] at k1
        have HKR := Lib.hid hkr
        clear hkr
        have HSR := Lib.hid (sizeK5 kr)
        have HOR := Lib.hid kr.ones
        have HL0 := HLL.out kr
        clear hV0 HLL
        go_wp2_with (first
          | (refine wpList_load_agg rfl 23 _ rfl (g + 1) rfl kr.vals k1 _ undK rfl HSR.out ?_)
          | (refine wpList_store_agg rfl 23 _ _ rfl g kz.vals kr.vals rfl rfl k0 HL0 HSR.out HOR.out ?_; intro w4 h4 f4 s4))
        refine bodyPost_ret (v := .agg (aggV kr.vals)) (results_agg Try.results18 rfl (loadK5 h4)) rfl ⟨by rw [HKR.out], ?_⟩
        try rw [HG.out]
        exact BL.out.trans (f4.below (by omega) (fun j hj e => by omega))
end Go.Proofs.Ytfncipoiblieeaa
