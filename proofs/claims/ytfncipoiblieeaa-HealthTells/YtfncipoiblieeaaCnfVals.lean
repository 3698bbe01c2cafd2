/- Layer 8: configurations as plain numbers: their fields, what each may be. No walk. -/
import Derived.Test.YtfncipoiblieeaaAgg
namespace Go.Proofs.Ytfncipoiblieeaa
set_option linter.unusedVariables false
open Go.ChangeShapes Go.WideShapes Go.ChangeAt Go.RowKit

/-- A configuration; also its sixteen numbers in turn. -/
structure Cnf where
  mode : Int
  pool : Int
  queue : Int
  sem : Int
  fbMax : Int
  chain : Int
  timeout : Int
  fbTimeout : Int
  volume : Int
  percent : Int
  sleep : Int
  buckets : Int
  width : Int
  window : Int
  batch : Int
  force : Int
deriving DecidableEq
namespace Cnf
/-- The numbers in turn. -/
def L (c : Cnf) : List Int := [c.mode, c.pool, c.queue, c.sem, c.fbMax, c.chain, c.timeout, c.fbTimeout, c.volume, c.percent, c.sleep, c.buckets, c.width, c.window, c.batch, c.force]
/-- As a struct's cells; as an array's of int64. -/
def vals (c : Cnf) : List Value := [.int .i64 c.mode, .int .i64 c.pool, .int .i64 c.queue, .int .i64 c.sem, .int .i64 c.fbMax, .int .i64 c.chain, .int .u64 c.timeout, .int .u64 c.fbTimeout, .int .i64 c.volume, .int .i64 c.percent, .int .u64 c.sleep, .int .i64 c.buckets, .int .u64 c.width, .int .u64 c.window, .int .i64 c.batch, .int .i64 c.force]
def nums (c : Cnf) : List Value := [.int .i64 c.mode, .int .i64 c.pool, .int .i64 c.queue, .int .i64 c.sem, .int .i64 c.fbMax, .int .i64 c.chain, .int .i64 c.timeout, .int .i64 c.fbTimeout, .int .i64 c.volume, .int .i64 c.percent, .int .i64 c.sleep, .int .i64 c.buckets, .int .i64 c.width, .int .i64 c.window, .int .i64 c.batch, .int .i64 c.force]
def zero : Cnf := ⟨0, 0, 0, 0, 0, 0, 0, 0, 0, 0, 0, 0, 0, 0, 0, 0⟩
def put (c : Cnf) : Cnf := ⟨c.mode, c.pool, c.queue, c.sem, c.fbMax, c.chain, wrap64 c.timeout, wrap64 c.fbTimeout, c.volume, c.percent, wrap64 c.sleep, c.buckets, wrap64 c.width, wrap64 c.window, c.batch, c.force⟩
def take (c : Cnf) : Cnf := ⟨c.mode, c.pool, c.queue, c.sem, c.fbMax, c.chain, IntKind.u64.wrap c.timeout, IntKind.u64.wrap c.fbTimeout, c.volume, c.percent, IntKind.u64.wrap c.sleep, c.buckets, IntKind.u64.wrap c.width, IntKind.u64.wrap c.window, c.batch, c.force⟩
/-- Numbers that the fields' types hold; that sixteen int64 hold. -/
structure Fits (c : Cnf) : Prop where
  mode : -9223372036854775808 ≤ c.mode ∧ c.mode ≤ 9223372036854775807
  pool : -9223372036854775808 ≤ c.pool ∧ c.pool ≤ 9223372036854775807
  queue : -9223372036854775808 ≤ c.queue ∧ c.queue ≤ 9223372036854775807
  sem : -9223372036854775808 ≤ c.sem ∧ c.sem ≤ 9223372036854775807
  fbMax : -9223372036854775808 ≤ c.fbMax ∧ c.fbMax ≤ 9223372036854775807
  chain : -9223372036854775808 ≤ c.chain ∧ c.chain ≤ 9223372036854775807
  timeout : 0 ≤ c.timeout ∧ c.timeout ≤ 18446744073709551615
  fbTimeout : 0 ≤ c.fbTimeout ∧ c.fbTimeout ≤ 18446744073709551615
  volume : -9223372036854775808 ≤ c.volume ∧ c.volume ≤ 9223372036854775807
  percent : -9223372036854775808 ≤ c.percent ∧ c.percent ≤ 9223372036854775807
  sleep : 0 ≤ c.sleep ∧ c.sleep ≤ 18446744073709551615
  buckets : -9223372036854775808 ≤ c.buckets ∧ c.buckets ≤ 9223372036854775807
  width : 0 ≤ c.width ∧ c.width ≤ 18446744073709551615
  window : 0 ≤ c.window ∧ c.window ≤ 18446744073709551615
  batch : -9223372036854775808 ≤ c.batch ∧ c.batch ≤ 9223372036854775807
  force : -9223372036854775808 ≤ c.force ∧ c.force ≤ 9223372036854775807
structure Fit64 (c : Cnf) : Prop where
  mode : -9223372036854775808 ≤ c.mode ∧ c.mode ≤ 9223372036854775807
  pool : -9223372036854775808 ≤ c.pool ∧ c.pool ≤ 9223372036854775807
  queue : -9223372036854775808 ≤ c.queue ∧ c.queue ≤ 9223372036854775807
  sem : -9223372036854775808 ≤ c.sem ∧ c.sem ≤ 9223372036854775807
  fbMax : -9223372036854775808 ≤ c.fbMax ∧ c.fbMax ≤ 9223372036854775807
  chain : -9223372036854775808 ≤ c.chain ∧ c.chain ≤ 9223372036854775807
  timeout : -9223372036854775808 ≤ c.timeout ∧ c.timeout ≤ 9223372036854775807
  fbTimeout : -9223372036854775808 ≤ c.fbTimeout ∧ c.fbTimeout ≤ 9223372036854775807
  volume : -9223372036854775808 ≤ c.volume ∧ c.volume ≤ 9223372036854775807
  percent : -9223372036854775808 ≤ c.percent ∧ c.percent ≤ 9223372036854775807
  sleep : -9223372036854775808 ≤ c.sleep ∧ c.sleep ≤ 9223372036854775807
  buckets : -9223372036854775808 ≤ c.buckets ∧ c.buckets ≤ 9223372036854775807
  width : -9223372036854775808 ≤ c.width ∧ c.width ≤ 9223372036854775807
  window : -9223372036854775808 ≤ c.window ∧ c.window ≤ 9223372036854775807
  batch : -9223372036854775808 ≤ c.batch ∧ c.batch ≤ 9223372036854775807
  force : -9223372036854775808 ≤ c.force ∧ c.force ≤ 9223372036854775807
theorem len_L (c : Cnf) : c.L.length = 16 := rfl
theorem len_vals (c : Cnf) : c.vals.length = 16 := rfl
theorem len_nums (c : Cnf) : c.nums.length = 16 := rfl
theorem nums_L (c : Cnf) : c.nums = c.L.map (Value.int .i64) := rfl
theorem ones_vals (c : Cnf) : Ones c.vals := by intro v hv; simp only [vals, List.mem_cons, List.not_mem_nil, or_false] at hv; rcases hv with rfl | rfl | rfl | rfl | rfl | rfl | rfl | rfl | rfl | rfl | rfl | rfl | rfl | rfl | rfl | rfl <;> rfl
theorem ones_nums (c : Cnf) : Ones c.nums := by intro v hv; simp only [nums, List.mem_cons, List.not_mem_nil, or_false] at hv; rcases hv with rfl | rfl | rfl | rfl | rfl | rfl | rfl | rfl | rfl | rfl | rfl | rfl | rfl | rfl | rfl | rfl <;> rfl
theorem vals_inj {c d : Cnf} (h : c.vals = d.vals) : c = d := by
  cases c; cases d
  simpa [vals] using h
theorem nums_inj {c d : Cnf} (h : c.nums = d.nums) : c = d := by
  cases c; cases d
  simpa [nums] using h
theorem wrap_ui {x : Int} (h : -9223372036854775808 ≤ x ∧ x ≤ 9223372036854775807) : wrap64 (IntKind.u64.wrap x) = x := by unfold wrap64; rw [IntKind.wrap_u64]; omega
theorem wrap_iu {x : Int} (h : 0 ≤ x ∧ x ≤ 18446744073709551615) : IntKind.u64.wrap (wrap64 x) = x := by unfold wrap64; rw [IntKind.wrap_u64]; omega
theorem wrapI_bd (x : Int) : -9223372036854775808 ≤ wrap64 x ∧ wrap64 x ≤ 9223372036854775807 := by unfold wrap64; omega
theorem wrapU_bd (x : Int) : 0 ≤ IntKind.u64.wrap x ∧ IntKind.u64.wrap x ≤ 18446744073709551615 := by rw [IntKind.wrap_u64]; omega
theorem put_take {c : Cnf} (h : c.Fit64) : c.take.put = c := by
  cases c
  simp only [take, put, wrap_ui h.timeout, wrap_ui h.fbTimeout, wrap_ui h.sleep, wrap_ui h.width, wrap_ui h.window]
theorem take_put {c : Cnf} (h : c.Fits) : c.put.take = c := by
  cases c
  simp only [take, put, wrap_iu h.timeout, wrap_iu h.fbTimeout, wrap_iu h.sleep, wrap_iu h.width, wrap_iu h.window]
theorem put_fits {c : Cnf} (h : c.Fits) : c.put.Fit64 := ⟨h.mode, h.pool, h.queue, h.sem, h.fbMax, h.chain, wrapI_bd _, wrapI_bd _, h.volume, h.percent, wrapI_bd _, h.buckets, wrapI_bd _, wrapI_bd _, h.batch, h.force⟩
theorem take_fits {c : Cnf} (h : c.Fit64) : c.take.Fits := ⟨h.mode, h.pool, h.queue, h.sem, h.fbMax, h.chain, wrapU_bd _, wrapU_bd _, h.volume, h.percent, wrapU_bd _, h.buckets, wrapU_bd _, wrapU_bd _, h.batch, h.force⟩
theorem cells_vals {w : World} {g : Nat} {ty : TypeId} {c : Cnf} (h : w.heap[g]? = some (vobj ty c.vals)) : w.cell? ⟨g, 0, none⟩ = some (.int .i64 c.mode) ∧ w.cell? ⟨g, 1, none⟩ = some (.int .i64 c.pool) ∧ w.cell? ⟨g, 2, none⟩ = some (.int .i64 c.queue) ∧ w.cell? ⟨g, 3, none⟩ = some (.int .i64 c.sem) ∧ w.cell? ⟨g, 4, none⟩ = some (.int .i64 c.fbMax) ∧ w.cell? ⟨g, 5, none⟩ = some (.int .i64 c.chain) ∧ w.cell? ⟨g, 6, none⟩ = some (.int .u64 c.timeout) ∧ w.cell? ⟨g, 7, none⟩ = some (.int .u64 c.fbTimeout) ∧ w.cell? ⟨g, 8, none⟩ = some (.int .i64 c.volume) ∧ w.cell? ⟨g, 9, none⟩ = some (.int .i64 c.percent) ∧ w.cell? ⟨g, 10, none⟩ = some (.int .u64 c.sleep) ∧ w.cell? ⟨g, 11, none⟩ = some (.int .i64 c.buckets) ∧ w.cell? ⟨g, 12, none⟩ = some (.int .u64 c.width) ∧ w.cell? ⟨g, 13, none⟩ = some (.int .u64 c.window) ∧ w.cell? ⟨g, 14, none⟩ = some (.int .i64 c.batch) ∧ w.cell? ⟨g, 15, none⟩ = some (.int .i64 c.force) :=
  ⟨vobj_cell h rfl, vobj_cell h rfl, vobj_cell h rfl, vobj_cell h rfl, vobj_cell h rfl, vobj_cell h rfl, vobj_cell h rfl, vobj_cell h rfl, vobj_cell h rfl, vobj_cell h rfl, vobj_cell h rfl, vobj_cell h rfl, vobj_cell h rfl, vobj_cell h rfl, vobj_cell h rfl, vobj_cell h rfl⟩
theorem cells_nums {w : World} {g : Nat} {ty : TypeId} {c : Cnf} (h : w.heap[g]? = some (vobj ty c.nums)) : w.cell? ⟨g, 0, none⟩ = some (.int .i64 c.mode) ∧ w.cell? ⟨g, 1, none⟩ = some (.int .i64 c.pool) ∧ w.cell? ⟨g, 2, none⟩ = some (.int .i64 c.queue) ∧ w.cell? ⟨g, 3, none⟩ = some (.int .i64 c.sem) ∧ w.cell? ⟨g, 4, none⟩ = some (.int .i64 c.fbMax) ∧ w.cell? ⟨g, 5, none⟩ = some (.int .i64 c.chain) ∧ w.cell? ⟨g, 6, none⟩ = some (.int .i64 c.timeout) ∧ w.cell? ⟨g, 7, none⟩ = some (.int .i64 c.fbTimeout) ∧ w.cell? ⟨g, 8, none⟩ = some (.int .i64 c.volume) ∧ w.cell? ⟨g, 9, none⟩ = some (.int .i64 c.percent) ∧ w.cell? ⟨g, 10, none⟩ = some (.int .i64 c.sleep) ∧ w.cell? ⟨g, 11, none⟩ = some (.int .i64 c.buckets) ∧ w.cell? ⟨g, 12, none⟩ = some (.int .i64 c.width) ∧ w.cell? ⟨g, 13, none⟩ = some (.int .i64 c.window) ∧ w.cell? ⟨g, 14, none⟩ = some (.int .i64 c.batch) ∧ w.cell? ⟨g, 15, none⟩ = some (.int .i64 c.force) :=
  ⟨vobj_cell h rfl, vobj_cell h rfl, vobj_cell h rfl, vobj_cell h rfl, vobj_cell h rfl, vobj_cell h rfl, vobj_cell h rfl, vobj_cell h rfl, vobj_cell h rfl, vobj_cell h rfl, vobj_cell h rfl, vobj_cell h rfl, vobj_cell h rfl, vobj_cell h rfl, vobj_cell h rfl, vobj_cell h rfl⟩
/-- What the numbers may be: the least and the greatest one. -/
def spans (c : Cnf) : List (Int × Int) := [(1, 2), (if c.mode = 1 then (1, 8) else (0, 0)), (if c.mode = 1 then (0, 8) else (0, 0)), (if c.mode = 2 then (1, 8) else (0, 0)), (0, 4), (0, 3), (1, 1099511627776), (1, 1099511627776), (1, 1000), (0, 100), (0, 1099511627776), (1, 8), (1, 1099511627776), (0, 1099511627776), (if c.window = 0 then (0, 0) else (1, 4)), (0, 2)]
def goods (c : Cnf) : List Bool := List.zipWith (fun z p => decide (p.1 ≤ z ∧ z ≤ p.2)) c.L c.spans
theorem len_spans (c : Cnf) : c.spans.length = 16 := rfl
theorem len_goods (c : Cnf) : c.goods.length = 16 := rfl
/-- The document's words on each field. -/
def oks (c : Cnf) : List Bool := [decide (1 ≤ c.mode ∧ c.mode ≤ 2), (if c.mode = 1 then decide (1 ≤ c.pool ∧ c.pool ≤ 8) else decide (c.pool = 0)), (if c.mode = 1 then decide (0 ≤ c.queue ∧ c.queue ≤ 8) else decide (c.queue = 0)), (if c.mode = 2 then decide (1 ≤ c.sem ∧ c.sem ≤ 8) else decide (c.sem = 0)), decide (0 ≤ c.fbMax ∧ c.fbMax ≤ 4), decide (0 ≤ c.chain ∧ c.chain ≤ 3), decide (1 ≤ c.timeout ∧ c.timeout ≤ 1099511627776), decide (1 ≤ c.fbTimeout ∧ c.fbTimeout ≤ 1099511627776), decide (1 ≤ c.volume ∧ c.volume ≤ 1000), decide (0 ≤ c.percent ∧ c.percent ≤ 100), decide (0 ≤ c.sleep ∧ c.sleep ≤ 1099511627776), decide (1 ≤ c.buckets ∧ c.buckets ≤ 8), decide (1 ≤ c.width ∧ c.width ≤ 1099511627776), decide (0 ≤ c.window ∧ c.window ≤ 1099511627776), (if 0 < c.window then decide (1 ≤ c.batch ∧ c.batch ≤ 4) else decide (c.batch = 0)), decide (0 ≤ c.force ∧ c.force ≤ 2)]
theorem len_oks (c : Cnf) : c.oks.length = 16 := rfl
theorem ok_time {x lo : Int} (h : 0 ≤ x ∧ x ≤ 18446744073709551615) (hl : 0 ≤ lo) : decide (lo ≤ wrap64 x ∧ wrap64 x ≤ 1099511627776) = decide (lo ≤ x ∧ x ≤ 1099511627776) := by
  rw [decide_eq_decide]; unfold wrap64; omega
theorem ok_if {p : Prop} [Decidable p] {x a b : Int} : decide ((if p then (a, b) else ((0 : Int), (0 : Int))).1 ≤ x ∧ x ≤ (if p then (a, b) else ((0 : Int), (0 : Int))).2) = if p then decide (a ≤ x ∧ x ≤ b) else decide (x = 0) := by
  split
  · rfl
  · rw [decide_eq_decide]; constructor <;> intro h <;> simp at * <;> omega
theorem ok_batch {x y : Int} (h : 0 ≤ x ∧ x ≤ 18446744073709551615) : decide ((if wrap64 x = 0 then ((0 : Int), (0 : Int)) else (1, 4)).1 ≤ y ∧ y ≤ (if wrap64 x = 0 then ((0 : Int), (0 : Int)) else (1, 4)).2) = if 0 < x then decide (1 ≤ y ∧ y ≤ 4) else decide (y = 0) := by
  have : wrap64 x = 0 ↔ ¬ 0 < x := by unfold wrap64; omega
  by_cases hx : 0 < x
  · rw [if_neg (by rw [this]; omega), if_pos hx]
  · rw [if_pos (this.2 hx), if_neg hx, decide_eq_decide]; constructor <;> intro h <;> simp at * <;> omega
theorem cons2 {a b : Bool} {l m : List Bool} (h : a = b) (k : l = m) : a :: l = b :: m := by rw [h, k]
theorem goods_put {c : Cnf} (h : c.Fits) : c.put.goods = c.oks := by
  show List.zipWith _ [_, _, _, _, _, _, _, _, _, _, _, _, _, _, _, _] [_, _, _, _, _, _, _, _, _, _, _, _, _, _, _, _] = [_, _, _, _, _, _, _, _, _, _, _, _, _, _, _, _]
  exact cons2 rfl (cons2 ok_if (cons2 ok_if (cons2 ok_if (cons2 rfl (cons2 rfl (cons2 (ok_time h.timeout (by omega)) (cons2 (ok_time h.fbTimeout (by omega)) (cons2 rfl (cons2 rfl (cons2 (ok_time h.sleep (by omega)) (cons2 rfl (cons2 (ok_time h.width (by omega)) (cons2 (ok_time h.window (by omega)) (cons2 (ok_batch h.window) (cons2 rfl (rfl))))))))))))))))
/-- The number of the first that is false; 0, if none is. -/
def firstF : List Bool → Nat
  | [] => 0
  | false :: _ => 1
  | true :: l => if firstF l = 0 then 0 else firstF l + 1
theorem firstF_at : ∀ {l : List Bool} {k : Nat}, (∀ j, j < k → l[j]? = some true) → l[k]? = some false → firstF l = k + 1
  | [], k, _, h => by simp at h
  | b :: l, 0, _, h => by simp at h; subst h; rfl
  | b :: l, k + 1, ha, h => by
    have h0 := ha 0 (by omega)
    simp at h0
    subst h0
    have := firstF_at (l := l) (k := k) (fun j hj => by have := ha (j + 1) (by omega); simpa using this) (by simpa using h)
    rw [firstF, if_neg (by omega), this]
theorem firstF_all : ∀ {l : List Bool}, (∀ j, j < l.length → l[j]? = some true) → firstF l = 0
  | [], _ => rfl
  | b :: l, ha => by
    have h0 := ha 0 (by simp)
    simp at h0
    subst h0
    have := firstF_all (l := l) (fun j hj => by have := ha (j + 1) (by simpa using hj); simpa using this)
    rw [firstF, if_pos this]
theorem firstF_le : ∀ l : List Bool, firstF l ≤ l.length
  | [] => Nat.le_refl _
  | false :: l => by simp [firstF]
  | true :: l => by have := firstF_le l; rw [firstF]; split <;> simp; omega
theorem firstF_zero : ∀ {l : List Bool}, firstF l = 0 → ∀ b ∈ l, b = true
  | [], _ => by simp
  | false :: l, h => by simp [firstF] at h
  | true :: l, h => by
    rw [firstF] at h
    split at h
    · rename_i h0
      intro b hb
      rcases List.mem_cons.1 hb with rfl | hb
      · rfl
      · exact firstF_zero h0 b hb
    · omega
/-- The number of the first number that may not be; of the first field. -/
def wrong (f : Cnf) : Nat := firstF f.goods
def bad (c : Cnf) : Nat := firstF c.oks
theorem wrong_put {c : Cnf} (h : c.Fits) : c.put.wrong = c.bad := by unfold wrong bad; rw [goods_put h]
theorem wrong_take {f : Cnf} (h : f.Fit64) : f.wrong = f.take.bad := by rw [← wrong_put (take_fits h), put_take h]
theorem bad_le (c : Cnf) : c.bad ≤ 16 := firstF_le _
theorem wrong_le (c : Cnf) : c.wrong ≤ 16 := firstF_le _
/-- The error beside it. -/
def errOf (n : Nat) : Int := if n = 0 then 0 else 1
/-- What a configuration that may be is. -/
structure May (c : Cnf) : Prop where
  mode : 1 ≤ c.mode ∧ c.mode ≤ 2
  pool : if c.mode = 1 then 1 ≤ c.pool ∧ c.pool ≤ 8 else c.pool = 0
  queue : if c.mode = 1 then 0 ≤ c.queue ∧ c.queue ≤ 8 else c.queue = 0
  sem : if c.mode = 2 then 1 ≤ c.sem ∧ c.sem ≤ 8 else c.sem = 0
  fbMax : 0 ≤ c.fbMax ∧ c.fbMax ≤ 4
  chain : 0 ≤ c.chain ∧ c.chain ≤ 3
  timeout : 1 ≤ c.timeout ∧ c.timeout ≤ 1099511627776
  fbTimeout : 1 ≤ c.fbTimeout ∧ c.fbTimeout ≤ 1099511627776
  volume : 1 ≤ c.volume ∧ c.volume ≤ 1000
  percent : 0 ≤ c.percent ∧ c.percent ≤ 100
  sleep : 0 ≤ c.sleep ∧ c.sleep ≤ 1099511627776
  buckets : 1 ≤ c.buckets ∧ c.buckets ≤ 8
  width : 1 ≤ c.width ∧ c.width ≤ 1099511627776
  window : 0 ≤ c.window ∧ c.window ≤ 1099511627776
  batch : if 0 < c.window then 1 ≤ c.batch ∧ c.batch ≤ 4 else c.batch = 0
  force : 0 ≤ c.force ∧ c.force ≤ 2
theorem may_of {c : Cnf} (h : c.bad = 0) : c.May := by
  have h := firstF_zero h
  simp only [oks, List.mem_cons, List.not_mem_nil, or_false, forall_eq_or_imp, forall_eq] at h
  obtain ⟨h0, h1, h2, h3, h4, h5, h6, h7, h8, h9, h10, h11, h12, h13, h14, h15⟩ := h
  refine ⟨of_decide_eq_true h0, (by split <;> simp_all), (by split <;> simp_all), (by split <;> simp_all), of_decide_eq_true h4, of_decide_eq_true h5, of_decide_eq_true h6, of_decide_eq_true h7, of_decide_eq_true h8, of_decide_eq_true h9, of_decide_eq_true h10, of_decide_eq_true h11, of_decide_eq_true h12, of_decide_eq_true h13, (by split <;> simp_all), of_decide_eq_true h15⟩
end Cnf
theorem cnf_flat {c0 : Array Value} (h : Flat [.int .i64, .int .i64, .int .i64, .int .i64, .int .i64, .int .i64, .int .u64, .int .u64, .int .i64, .int .i64, .int .u64, .int .i64, .int .u64, .int .u64, .int .i64, .int .i64] c0.toList) : ∃ c : Cnf, c0 = aggV c.vals ∧ c.Fits := by
  obtain ⟨l⟩ := c0
  obtain _ | ⟨v0, l⟩ := l
  · exact h.elim
  obtain ⟨⟨n0, rfl, u0⟩, h⟩ := h
  obtain _ | ⟨v1, l⟩ := l
  · exact h.elim
  obtain ⟨⟨n1, rfl, u1⟩, h⟩ := h
  obtain _ | ⟨v2, l⟩ := l
  · exact h.elim
  obtain ⟨⟨n2, rfl, u2⟩, h⟩ := h
  obtain _ | ⟨v3, l⟩ := l
  · exact h.elim
  obtain ⟨⟨n3, rfl, u3⟩, h⟩ := h
  obtain _ | ⟨v4, l⟩ := l
  · exact h.elim
  obtain ⟨⟨n4, rfl, u4⟩, h⟩ := h
  obtain _ | ⟨v5, l⟩ := l
  · exact h.elim
  obtain ⟨⟨n5, rfl, u5⟩, h⟩ := h
  obtain _ | ⟨v6, l⟩ := l
  · exact h.elim
  obtain ⟨⟨n6, rfl, u6⟩, h⟩ := h
  obtain _ | ⟨v7, l⟩ := l
  · exact h.elim
  obtain ⟨⟨n7, rfl, u7⟩, h⟩ := h
  obtain _ | ⟨v8, l⟩ := l
  · exact h.elim
  obtain ⟨⟨n8, rfl, u8⟩, h⟩ := h
  obtain _ | ⟨v9, l⟩ := l
  · exact h.elim
  obtain ⟨⟨n9, rfl, u9⟩, h⟩ := h
  obtain _ | ⟨v10, l⟩ := l
  · exact h.elim
  obtain ⟨⟨n10, rfl, u10⟩, h⟩ := h
  obtain _ | ⟨v11, l⟩ := l
  · exact h.elim
  obtain ⟨⟨n11, rfl, u11⟩, h⟩ := h
  obtain _ | ⟨v12, l⟩ := l
  · exact h.elim
  obtain ⟨⟨n12, rfl, u12⟩, h⟩ := h
  obtain _ | ⟨v13, l⟩ := l
  · exact h.elim
  obtain ⟨⟨n13, rfl, u13⟩, h⟩ := h
  obtain _ | ⟨v14, l⟩ := l
  · exact h.elim
  obtain ⟨⟨n14, rfl, u14⟩, h⟩ := h
  obtain _ | ⟨v15, l⟩ := l
  · exact h.elim
  obtain ⟨⟨n15, rfl, u15⟩, h⟩ := h
  obtain _ | ⟨v, l⟩ := l
  · exact ⟨⟨n0, n1, n2, n3, n4, n5, n6, n7, n8, n9, n10, n11, n12, n13, n14, n15⟩, rfl, ⟨(by have := bounds_i64 u0; omega), (by have := bounds_i64 u1; omega), (by have := bounds_i64 u2; omega), (by have := bounds_i64 u3; omega), (by have := bounds_i64 u4; omega), (by have := bounds_i64 u5; omega), wf_u64 u6, wf_u64 u7, (by have := bounds_i64 u8; omega), (by have := bounds_i64 u9; omega), wf_u64 u10, (by have := bounds_i64 u11; omega), wf_u64 u12, wf_u64 u13, (by have := bounds_i64 u14; omega), (by have := bounds_i64 u15; omega)⟩⟩
  · exact h.elim
theorem cnf_flat64 {c0 : Array Value} (h : Flat [.int .i64, .int .i64, .int .i64, .int .i64, .int .i64, .int .i64, .int .i64, .int .i64, .int .i64, .int .i64, .int .i64, .int .i64, .int .i64, .int .i64, .int .i64, .int .i64] c0.toList) : ∃ c : Cnf, c0 = aggV c.nums ∧ c.Fit64 := by
  obtain ⟨l⟩ := c0
  obtain _ | ⟨v0, l⟩ := l
  · exact h.elim
  obtain ⟨⟨n0, rfl, u0⟩, h⟩ := h
  obtain _ | ⟨v1, l⟩ := l
  · exact h.elim
  obtain ⟨⟨n1, rfl, u1⟩, h⟩ := h
  obtain _ | ⟨v2, l⟩ := l
  · exact h.elim
  obtain ⟨⟨n2, rfl, u2⟩, h⟩ := h
  obtain _ | ⟨v3, l⟩ := l
  · exact h.elim
  obtain ⟨⟨n3, rfl, u3⟩, h⟩ := h
  obtain _ | ⟨v4, l⟩ := l
  · exact h.elim
  obtain ⟨⟨n4, rfl, u4⟩, h⟩ := h
  obtain _ | ⟨v5, l⟩ := l
  · exact h.elim
  obtain ⟨⟨n5, rfl, u5⟩, h⟩ := h
  obtain _ | ⟨v6, l⟩ := l
  · exact h.elim
  obtain ⟨⟨n6, rfl, u6⟩, h⟩ := h
  obtain _ | ⟨v7, l⟩ := l
  · exact h.elim
  obtain ⟨⟨n7, rfl, u7⟩, h⟩ := h
  obtain _ | ⟨v8, l⟩ := l
  · exact h.elim
  obtain ⟨⟨n8, rfl, u8⟩, h⟩ := h
  obtain _ | ⟨v9, l⟩ := l
  · exact h.elim
  obtain ⟨⟨n9, rfl, u9⟩, h⟩ := h
  obtain _ | ⟨v10, l⟩ := l
  · exact h.elim
  obtain ⟨⟨n10, rfl, u10⟩, h⟩ := h
  obtain _ | ⟨v11, l⟩ := l
  · exact h.elim
  obtain ⟨⟨n11, rfl, u11⟩, h⟩ := h
  obtain _ | ⟨v12, l⟩ := l
  · exact h.elim
  obtain ⟨⟨n12, rfl, u12⟩, h⟩ := h
  obtain _ | ⟨v13, l⟩ := l
  · exact h.elim
  obtain ⟨⟨n13, rfl, u13⟩, h⟩ := h
  obtain _ | ⟨v14, l⟩ := l
  · exact h.elim
  obtain ⟨⟨n14, rfl, u14⟩, h⟩ := h
  obtain _ | ⟨v15, l⟩ := l
  · exact h.elim
  obtain ⟨⟨n15, rfl, u15⟩, h⟩ := h
  obtain _ | ⟨v, l⟩ := l
  · exact ⟨⟨n0, n1, n2, n3, n4, n5, n6, n7, n8, n9, n10, n11, n12, n13, n14, n15⟩, rfl, ⟨(by have := bounds_i64 u0; omega), (by have := bounds_i64 u1; omega), (by have := bounds_i64 u2; omega), (by have := bounds_i64 u3; omega), (by have := bounds_i64 u4; omega), (by have := bounds_i64 u5; omega), (by have := bounds_i64 u6; omega), (by have := bounds_i64 u7; omega), (by have := bounds_i64 u8; omega), (by have := bounds_i64 u9; omega), (by have := bounds_i64 u10; omega), (by have := bounds_i64 u11; omega), (by have := bounds_i64 u12; omega), (by have := bounds_i64 u13; omega), (by have := bounds_i64 u14; omega), (by have := bounds_i64 u15; omega)⟩⟩
  · exact h.elim
theorem flat_vals {c : Cnf} (h : c.Fits) : Flat [.int .i64, .int .i64, .int .i64, .int .i64, .int .i64, .int .i64, .int .u64, .int .u64, .int .i64, .int .i64, .int .u64, .int .i64, .int .u64, .int .u64, .int .i64, .int .i64] (aggV c.vals).toList :=
  ⟨⟨_, rfl, WalkArith.wf_i64 h.mode⟩, ⟨_, rfl, WalkArith.wf_i64 h.pool⟩, ⟨_, rfl, WalkArith.wf_i64 h.queue⟩, ⟨_, rfl, WalkArith.wf_i64 h.sem⟩, ⟨_, rfl, WalkArith.wf_i64 h.fbMax⟩, ⟨_, rfl, WalkArith.wf_i64 h.chain⟩, ⟨_, rfl, WalkArith.wf_u64 ⟨h.timeout.1, by have := h.timeout.2; omega⟩⟩, ⟨_, rfl, WalkArith.wf_u64 ⟨h.fbTimeout.1, by have := h.fbTimeout.2; omega⟩⟩, ⟨_, rfl, WalkArith.wf_i64 h.volume⟩, ⟨_, rfl, WalkArith.wf_i64 h.percent⟩, ⟨_, rfl, WalkArith.wf_u64 ⟨h.sleep.1, by have := h.sleep.2; omega⟩⟩, ⟨_, rfl, WalkArith.wf_i64 h.buckets⟩, ⟨_, rfl, WalkArith.wf_u64 ⟨h.width.1, by have := h.width.2; omega⟩⟩, ⟨_, rfl, WalkArith.wf_u64 ⟨h.window.1, by have := h.window.2; omega⟩⟩, ⟨_, rfl, WalkArith.wf_i64 h.batch⟩, ⟨_, rfl, WalkArith.wf_i64 h.force⟩, trivial⟩
theorem flat_nums {c : Cnf} (h : c.Fit64) : Flat [.int .i64, .int .i64, .int .i64, .int .i64, .int .i64, .int .i64, .int .i64, .int .i64, .int .i64, .int .i64, .int .i64, .int .i64, .int .i64, .int .i64, .int .i64, .int .i64] (aggV c.nums).toList :=
  ⟨⟨_, rfl, WalkArith.wf_i64 h.mode⟩, ⟨_, rfl, WalkArith.wf_i64 h.pool⟩, ⟨_, rfl, WalkArith.wf_i64 h.queue⟩, ⟨_, rfl, WalkArith.wf_i64 h.sem⟩, ⟨_, rfl, WalkArith.wf_i64 h.fbMax⟩, ⟨_, rfl, WalkArith.wf_i64 h.chain⟩, ⟨_, rfl, WalkArith.wf_i64 h.timeout⟩, ⟨_, rfl, WalkArith.wf_i64 h.fbTimeout⟩, ⟨_, rfl, WalkArith.wf_i64 h.volume⟩, ⟨_, rfl, WalkArith.wf_i64 h.percent⟩, ⟨_, rfl, WalkArith.wf_i64 h.sleep⟩, ⟨_, rfl, WalkArith.wf_i64 h.buckets⟩, ⟨_, rfl, WalkArith.wf_i64 h.width⟩, ⟨_, rfl, WalkArith.wf_i64 h.window⟩, ⟨_, rfl, WalkArith.wf_i64 h.batch⟩, ⟨_, rfl, WalkArith.wf_i64 h.force⟩, trivial⟩
end Go.Proofs.Ytfncipoiblieeaa
