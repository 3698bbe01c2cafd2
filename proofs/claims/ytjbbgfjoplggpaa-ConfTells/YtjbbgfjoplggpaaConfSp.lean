/- Contract of package conf's spans: what each number may be. -/
import Derived.Test.YtjbbgfjoplggpaaConf
namespace Go.Proofs.Ytjbbgfjoplggpaa
set_option linter.unusedVariables false
open Go.ChangeShapes Go.WideShapes Go.ChangeAt Go.RowKit

/-- The spans as cells. -/
def two (a b : Int) : List Value := [.int .i64 a, .int .i64 b]
def spanV (f : Cnf) : List Value := f.spans.flatMap fun p => two p.1 p.2
def span0 : List Value := [(1, 2), (0, 0), (0, 0), (0, 0), (0, 4), (0, 3), (1, 1099511627776), (1, 1099511627776), (1, 1000), (0, 100), (0, 1099511627776), (1, 8), (1, 1099511627776), (0, 1099511627776), (0, 0), (0, 2)].flatMap fun p => two p.1 p.2
def spanZ : List Value := List.replicate 32 (.int .i64 0)
theorem len_spanV (f : Cnf) : (spanV f).length = 32 := by kernel_rfl
theorem ones_two (a b : Int) : Ones (two a b) := by intro v hv; simp only [two, List.mem_cons, List.not_mem_nil, or_false] at hv; rcases hv with rfl | rfl <;> rfl
theorem ones_flat (l : List (Int × Int)) : Ones (l.flatMap fun p => two p.1 p.2) := by
  intro v hv
  rw [List.mem_flatMap] at hv
  obtain ⟨p, _, hp⟩ := hv
  exact ones_two _ _ v hp
theorem allocS (w : World) : (Instr.alloc 53 true (.tuple #[])).run Try.prog w = .ok (.pointer (some ⟨w.heap.size, 0, none⟩)) (w.alloc (vobj 53 spanZ)) := by kernel_rfl
theorem undS : Try.prog.underlying 53 = some (.array 16 52) := by kernel_rfl
theorem sizeS {vs : List Value} (h : vs.length = 32) : (Try.prog.info? 53).map (·.size) = some vs.length := by rw [h]; kernel_rfl
theorem spans_1 {f : Cnf} (h : f.mode = 1) (h' : f.window = 0) : spanV f = putV (putV span0 2 (two 1 8)) 4 (two 0 8) := by
  simp only [spanV, Cnf.spans, h, h', if_true, show ¬ ((1 : Int) = 2) by omega, if_false]; rfl
theorem spans_2 {f : Cnf} (h : f.mode = 2) (h' : f.window = 0) : spanV f = putV span0 6 (two 1 8) := by
  simp only [spanV, Cnf.spans, h, h', if_true, show ¬ ((2 : Int) = 1) by omega, if_false]; rfl
theorem spans_3 {f : Cnf} (h1 : ¬ f.mode = 1) (h2 : ¬ f.mode = 2) (h' : f.window = 0) : spanV f = span0 := by
  simp only [spanV, Cnf.spans, h1, h2, h', if_true, if_false]; rfl
theorem spans_4 {f : Cnf} (h : f.mode = 1) (h' : ¬ f.window = 0) : spanV f = putV (putV (putV span0 2 (two 1 8)) 4 (two 0 8)) 28 (two 1 4) := by
  simp only [spanV, Cnf.spans, h, h', if_true, show ¬ ((1 : Int) = 2) by omega, if_false]; rfl
theorem spans_5 {f : Cnf} (h : f.mode = 2) (h' : ¬ f.window = 0) : spanV f = putV (putV span0 6 (two 1 8)) 28 (two 1 4) := by
  simp only [spanV, Cnf.spans, h, h', if_true, show ¬ ((2 : Int) = 1) by omega, if_false]; rfl
theorem spans_6 {f : Cnf} (h1 : ¬ f.mode = 1) (h2 : ¬ f.mode = 2) (h' : ¬ f.window = 0) : spanV f = putV span0 28 (two 1 4) := by
  simp only [spanV, Cnf.spans, h1, h2, h', if_false]; rfl

/-- While the spans are laid: what else there is. -/
structure SpK (g : Nat) (n : List Value) (w v : World) : Prop where
  low : Below g w v
  size : v.heap.size = g + 3
  res : v.heap[g + 1]? = some (vobj 53 spanZ)
  arg : v.heap[g]? = some (vobj 30 n)
theorem SpK.keep {g : Nat} {n : List Value} {w v v' : World} (h : SpK g n w v) (f : Frm (· = g + 2) v v') (hs : v'.heap.size = v.heap.size) : SpK g n w v' :=
  ⟨h.low.trans (f.below (by rw [h.size]; omega) (fun j hj e => by omega)), hs.trans h.size, (f.block (g + 1) (by rw [h.size]; omega) (by omega)).trans h.res, (f.block g (by rw [h.size]; omega) (by omega)).trans h.arg⟩
set_option maxRecDepth 100000 in
set_option maxHeartbeats 2000000 in
theorem spans_any (f : Cnf) (w : World) :
    Calls Try.prog 27 #[.agg (aggV f.nums)] w fun r w' => r = .returned (.agg (aggV (spanV f))) ∧ Below w.heap.size w w' := by
  obtain ⟨g, hg⟩ : ∃ g, w.heap.size = g := ⟨_, rfl⟩
  have cs : ∃ S, Hid (spanV f = S) ∧ ((f.mode = 1 ∧ f.window = 0 ∧ S = putV (putV span0 2 (two 1 8)) 4 (two 0 8)) ∨ (f.mode = 2 ∧ f.window = 0 ∧ S = putV span0 6 (two 1 8)) ∨ (¬ f.mode = 1 ∧ ¬ f.mode = 2 ∧ f.window = 0 ∧ S = span0)
      ∨ (f.mode = 1 ∧ ¬ f.window = 0 ∧ S = putV (putV (putV span0 2 (two 1 8)) 4 (two 0 8)) 28 (two 1 4)) ∨ (f.mode = 2 ∧ ¬ f.window = 0 ∧ S = putV (putV span0 6 (two 1 8)) 28 (two 1 4)) ∨ (¬ f.mode = 1 ∧ ¬ f.mode = 2 ∧ ¬ f.window = 0 ∧ S = putV span0 28 (two 1 4))) := by
    by_cases h' : f.window = 0
    · by_cases h : f.mode = 1
      · exact ⟨_, Lib.hid (spans_1 h h'), by simp [h, h']⟩
      · by_cases h2 : f.mode = 2
        · exact ⟨_, Lib.hid (spans_2 h2 h'), by simp [h2, h']⟩
        · exact ⟨_, Lib.hid (spans_3 h h2 h'), by simp [h, h2, h']⟩
    · by_cases h : f.mode = 1
      · exact ⟨_, Lib.hid (spans_4 h h'), by simp [h, h']⟩
      · by_cases h2 : f.mode = 2
        · exact ⟨_, Lib.hid (spans_5 h2 h'), by simp [h2, h']⟩
        · exact ⟨_, Lib.hid (spans_6 h h2 h'), by simp [h, h2, h']⟩
  obtain ⟨S, HS, cs⟩ := cs
  obtain ⟨n, hn⟩ : ∃ n, f.nums = n := ⟨_, rfl⟩
  have HC : Hid (∀ v : World, v.heap[g]? = some (vobj 30 n) → v.cell? ⟨g, 0, none⟩ = some (.int .i64 f.mode) ∧ v.cell? ⟨g, 13, none⟩ = some (.int .i64 f.window)) := Lib.hid (fun v hv => by
    rw [← hn] at hv
    exact ⟨(Cnf.cells_nums hv).1, (Cnf.cells_nums hv).2.2.2.2.2.2.2.2.2.2.2.2.2.1⟩)
  rw [hn]
  clear hn
  generalize f.mode = m at *
  generalize f.window = q at *
  rcases cs with ⟨rfl, rfl, rfl⟩ | ⟨rfl, rfl, rfl⟩ | ⟨e1, e2, rfl, rfl⟩ | ⟨rfl, e3, rfl⟩ | ⟨rfl, e3, rfl⟩ | ⟨e1, e2, e3, rfl⟩
  all_goals
    go_enter Try.func27, Try.ntmps27
    go_wp2_with (first
      | (refine wpList_box_agg rfl 30 _ rfl g hg n rfl ?_; intro w1 h1 l1 s1)
      | (refine wpList_alloc_agg rfl 53 rfl (g + 1) s1 spanZ (allocS _) ?_; intro w2 h2 l2 s2; have H2 := (l2.block g (by omega)).trans h1; clear h1)
      | (refine wpList_alloc_agg rfl 53 rfl (g + 2) s2 spanZ (allocS _) ?_; intro w3 h3 l3 s3; have K3 : Hid (SpK g n w w3) := Lib.hid ⟨(l1.trans (l2.mono (by omega))).trans (l3.mono (by omega : g ≤ g + 2)), s3, (l3.block (g + 1) (by omega)).trans h2, (l3.block g (by omega)).trans H2⟩; clear H2 h2 l1 l2 l3 s1 s2)
      | (refine wpList_build_agg rfl 53 _ rfl span0 ?hb ?_; (case hb => kernel_rfl))
      | (refine wpList_store_agg rfl 53 _ _ rfl (g + 2) spanZ span0 rfl rfl h3 rfl (sizeS rfl) (ones_flat _) ?_; intro w4 hS fS sS; have K := Lib.hid (K3.out.keep fS sS); clear K3; obtain ⟨c0, c13⟩ := HC.out _ K.out.arg; clear h3 fS sS)
      | (refine wpList_store_part rfl 52 _ _ rfl (g + 2) 2 53 _ (two 1 8) rfl rfl hS (by decide +kernel) (by kernel_rfl) (ones_two _ _) ?_; clear hS c0 c13; intro w4 hS fS sS; replace K := Lib.hid (K.out.keep fS sS); obtain ⟨c0, c13⟩ := HC.out _ K.out.arg; clear fS sS)
      | (refine wpList_store_part rfl 52 _ _ rfl (g + 2) 4 53 _ (two 0 8) rfl rfl hS (by decide +kernel) (by kernel_rfl) (ones_two _ _) ?_; clear hS c0 c13; intro w4 hS fS sS; replace K := Lib.hid (K.out.keep fS sS); obtain ⟨c0, c13⟩ := HC.out _ K.out.arg; clear fS sS)
      | (refine wpList_store_part rfl 52 _ _ rfl (g + 2) 6 53 _ (two 1 8) rfl rfl hS (by decide +kernel) (by kernel_rfl) (ones_two _ _) ?_; clear hS c0 c13; intro w4 hS fS sS; replace K := Lib.hid (K.out.keep fS sS); obtain ⟨c0, c13⟩ := HC.out _ K.out.arg; clear fS sS)
      | (refine wpList_store_part rfl 52 _ _ rfl (g + 2) 28 53 _ (two 1 4) rfl rfl hS (by decide +kernel) (by kernel_rfl) (ones_two _ _) ?_; clear hS c0 c13; intro w4 hS fS sS; replace K := Lib.hid (K.out.keep fS sS); obtain ⟨c0, c13⟩ := HC.out _ K.out.arg; clear fS sS)
      | (rw [← HS.out] at hS; refine wpList_load_agg rfl 53 _ rfl (g + 2) rfl (spanV f) hS _ undS rfl (sizeS (len_spanV f)) ?_)
      | (refine wpList_store_agg rfl 53 _ _ rfl (g + 1) spanZ (spanV f) rfl rfl K.out.res rfl (sizeS (len_spanV f)) (ones_flat _) ?_; intro w5 h5 f5 s5))
    refine bodyPost_ret (v := .agg (aggV (spanV f))) (results_agg Try.results27 rfl (run_load_agg _ _ _ _ _ h5 undS rfl (sizeS (len_spanV f)))) rfl ⟨rfl, ?_⟩
    subst hg
    exact K.out.low.trans (f5.below (by rw [K.out.size]; omega) (fun j hj e => by omega))
end Go.Proofs.Ytjbbgfjoplggpaa
