/- Layer 14: the document's coll, by value: New, Expire. -/
import Derived.Test.YtpfmjocpgnoepaaLaw14
import Derived.Test.YtpfmjocpgnoepaaRef13
namespace Go.Proofs.Ytpfmjocpgnoepaa
set_option linter.unusedVariables false
open Go.ChangeShapes Go.WideShapes Go.ChangeAt Go.RowKit

/-- The document's window by value. -/
abbrev rvals (W T : Int) (o : Bool) (E : Int) (A : Option Addr) (n c : Nat) (M : Option Addr) (m d : Nat) : List Value := [.int .u64 W, .int .i64 T, .bool o, .int .u64 E, .slice A n c, .slice M m d]
abbrev rcobj (W T : Int) (o : Bool) (E : Int) (A : Option Addr) (n c : Nat) (M : Option Addr) (m d : Nat) : Obj := vobj 86 (rvals W T o E A n c M m d)
abbrev rcV (W T : Int) (o : Bool) (E : Int) (A : Option Addr) (n c : Nat) (M : Option Addr) (m d : Nat) : Value := .agg #[.int .u64 W, .int .i64 T, .bool o, .int .u64 E, .slice A n c, .slice M m d]
theorem undRC : ∃ fs, Try.prog.underlying 86 = some (.struct fs) := ⟨_, Try.underlying86⟩
theorem sizeRC : (Try.prog.info? 86).map (·.size) = some 6 := by kernel_rfl
theorem onesRC (W T : Int) (o : Bool) (E : Int) (A M : Option Addr) (n c m d : Nat) : Ones (rvals W T o E A n c M m d) := by intro v hv; simp at hv; rcases hv with rfl | rfl | rfl | rfl | rfl | rfl <;> rfl
theorem loadRC {w : World} {g : Nat} {vs : List Value} (h : w.heap[g]? = some (vobj 86 vs)) (hl : vs.length = 6) : (loadVar 86 ⟨g, 0, none⟩).run Try.prog w = .ok (.agg (aggV vs)) w := by
  obtain ⟨fs, hu⟩ := undRC
  exact run_load_agg w _ g vs _ h hu rfl (by rw [hl]; exact sizeRC)
/-- Results in two cells. -/
theorem results_aggs2 {P : Program} {fn : Func} {tmps : Array Value} {w : World} {t u : TypeId} {c e : Tmp} {p q : Addr} {v x : Value} (hr : fn.results = #[.cell c t, .cell e u]) (ha : tmps.getD c undef = .pointer (some p)) (hl : (loadVar t p).run P w = .ok v w) (hb : tmps.getD e undef = .pointer (some q)) (hx : (loadVar u q).run P w = .ok x w) :
    (results fn tmps).run P w = .ok (.tuple #[v, x]) w := by
  unfold results
  rw [hr]
  rw [Array.getD_eq_getD_getElem?] at ha hb
  simp [asAddr, ha, hl, hb, hx]
theorem results_aggs3 {P : Program} {fn : Func} {tmps : Array Value} {w : World} {t u : TypeId} {c e f : Tmp} {p q : Addr} {v x y : Value} (hr : fn.results = #[.cell c t, .cell e u, .tmp f]) (ha : tmps.getD c undef = .pointer (some p)) (hl : (loadVar t p).run P w = .ok v w) (hb : tmps.getD e undef = .pointer (some q)) (hx : (loadVar u q).run P w = .ok x w) (hy : tmps.getD f undef = y) :
    (results fn tmps).run P w = .ok (.tuple #[v, x, y]) w := by
  unfold results
  rw [hr]
  rw [Array.getD_eq_getD_getElem?] at ha hb hy
  simp [asAddr, ha, hl, hb, hx, hy]

set_option maxRecDepth 100000 in
set_option maxHeartbeats 1000000 in
theorem rnew_any (W T : Int) (w : World) (hW : 0 ≤ W) :
    Calls Try.prog 44 #[.int .u64 W, .int .i64 T] w fun r w' => r = .returned (.tuple #[rcV W T false 0 none 0 0 none 0 0, .bool (newOk W T)]) ∧ Below w.heap.size w w' := by
  have K0 : Hid ((w.alloc (.cells #[.int .u64 0, .int .i64 0, .bool false, .int .u64 0, .slice none 0 0, .slice none 0 0] 86)).heap[w.heap.size]? = some (rcobj 0 0 false 0 none 0 0 none 0 0)) := Lib.hid (heap_alloc_at w _)
  have LW := Lib.hid (below_alloc w (.cells #[.int .u64 0, .int .i64 0, .bool false, .int .u64 0, .slice none 0 0, .slice none 0 0] 86))
  have fin : ∀ w5, w5.heap[w.heap.size]? = some (rcobj W T false 0 none 0 0 none 0 0) → Frm (· = w.heap.size) (w.alloc (.cells #[.int .u64 0, .int .i64 0, .bool false, .int .u64 0, .slice none 0 0, .slice none 0 0] 86)) w5 → Below w.heap.size w w5 := fun w5 _ f => LW.out.trans (f.below LW.out.size (fun j hj e => by omega))
  have FIN := Lib.hid fin
  clear fin
  cases hy : newOk W T with
  | true =>
    obtain ⟨h1, h2, h3, h4⟩ := of_decide_eq_true hy
    clear hy
    go_enter Try.func44, Try.ntmps44
    go_wp2_with (first
      | (refine wpList_store_agg rfl 86 _ _ rfl w.heap.size (rvals 0 0 false 0 none 0 0 none 0 0) (rvals W T false 0 none 0 0 none 0 0) rfl rfl ?hz rfl sizeRC (onesRC _ _ _ _ _ _ _ _ _ _) ?_; (case hz => exact K0.out); intro w5 k5 f5 _;
         have K5 := Lib.hid k5; have F5 := Lib.hid f5; clear k5 f5))
    refine bodyPost_ret (v := .tuple #[rcV W T false 0 none 0 0 none 0 0, .bool true]) (results_agg1 Try.results44 rfl (loadRC K5.out rfl) rfl) rfl ?_
    exact ⟨rfl, FIN.out w5 K5.out F5.out⟩
  | false =>
    have h' := of_decide_eq_false hy
    clear hy
    by_cases h1 : (1 : Int) ≤ W
    · by_cases h2 : W ≤ (1099511627776 : Int)
      · by_cases h3 : (1 : Int) ≤ T
        · have h4 : ¬ T ≤ (4 : Int) := by omega
          clear h'
          go_enter Try.func44, Try.ntmps44
          go_wp2_with (first
            | (refine wpList_store_agg rfl 86 _ _ rfl w.heap.size (rvals 0 0 false 0 none 0 0 none 0 0) (rvals W T false 0 none 0 0 none 0 0) rfl rfl ?hz rfl sizeRC (onesRC _ _ _ _ _ _ _ _ _ _) ?_; (case hz => exact K0.out); intro w5 k5 f5 _;
               have K5 := Lib.hid k5; have F5 := Lib.hid f5; clear k5 f5))
          refine bodyPost_ret (v := .tuple #[rcV W T false 0 none 0 0 none 0 0, .bool false]) (results_agg1 Try.results44 rfl (loadRC K5.out rfl) rfl) rfl ?_
          exact ⟨rfl, FIN.out w5 K5.out F5.out⟩
        · clear h'
          go_enter Try.func44, Try.ntmps44
          go_wp2_with (first
            | (refine wpList_store_agg rfl 86 _ _ rfl w.heap.size (rvals 0 0 false 0 none 0 0 none 0 0) (rvals W T false 0 none 0 0 none 0 0) rfl rfl ?hz rfl sizeRC (onesRC _ _ _ _ _ _ _ _ _ _) ?_; (case hz => exact K0.out); intro w5 k5 f5 _;
               have K5 := Lib.hid k5; have F5 := Lib.hid f5; clear k5 f5))
          refine bodyPost_ret (v := .tuple #[rcV W T false 0 none 0 0 none 0 0, .bool false]) (results_agg1 Try.results44 rfl (loadRC K5.out rfl) rfl) rfl ?_
          exact ⟨rfl, FIN.out w5 K5.out F5.out⟩
      · clear h'
        go_enter Try.func44, Try.ntmps44
        go_wp2_with (first
          | (refine wpList_store_agg rfl 86 _ _ rfl w.heap.size (rvals 0 0 false 0 none 0 0 none 0 0) (rvals W T false 0 none 0 0 none 0 0) rfl rfl ?hz rfl sizeRC (onesRC _ _ _ _ _ _ _ _ _ _) ?_; (case hz => exact K0.out); intro w5 k5 f5 _;
             have K5 := Lib.hid k5; have F5 := Lib.hid f5; clear k5 f5))
        refine bodyPost_ret (v := .tuple #[rcV W T false 0 none 0 0 none 0 0, .bool false]) (results_agg1 Try.results44 rfl (loadRC K5.out rfl) rfl) rfl ?_
        exact ⟨rfl, FIN.out w5 K5.out F5.out⟩
    · clear h'
      go_enter Try.func44, Try.ntmps44
      go_wp2_with (first
        | (refine wpList_store_agg rfl 86 _ _ rfl w.heap.size (rvals 0 0 false 0 none 0 0 none 0 0) (rvals W T false 0 none 0 0 none 0 0) rfl rfl ?hz rfl sizeRC (onesRC _ _ _ _ _ _ _ _ _ _) ?_; (case hz => exact K0.out); intro w5 k5 f5 _;
           have K5 := Lib.hid k5; have F5 := Lib.hid f5; clear k5 f5))
      refine bodyPost_ret (v := .tuple #[rcV W T false 0 none 0 0 none 0 0, .bool false]) (results_agg1 Try.results44 rfl (loadRC K5.out rfl) rfl) rfl ?_
      exact ⟨rfl, FIN.out w5 K5.out F5.out⟩
end Go.Proofs.Ytpfmjocpgnoepaa
