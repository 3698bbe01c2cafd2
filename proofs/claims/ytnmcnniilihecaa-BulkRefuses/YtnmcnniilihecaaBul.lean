/- Contracts of package bulk: its block; holder, Runs, Busy, Waiting, waits. -/
import Derived.Test.YtnmcnniilihecaaBulMath
import Derived.Test.YtnmcnniilihecaaRingDo
import Derived.Test.YtnmcnniilihecaaRefInts
import Derived.Test.YtnmcnniilihecaaPermDo
import Derived.Test.YtnmcnniilihecaaLater
namespace Go.Proofs.Ytnmcnniilihecaa
set_option linter.unusedVariables false
open Go.ChangeShapes Go.WideShapes Go.ChangeAt Go.RowKit

/-- A bulk's other blocks: the permits, their map, the queue. -/
structure Fb where
  pb : Nat
  m : Nat
  rb : Nat
/-- Those of them that may turn. -/
def Fb.F (f : Fb) (j : Nat) : Prop := j = f.m ∨ j = f.rb
abbrev bulobj (f : Fb) : Obj := .cells #[.pointer (some ⟨f.pb, 0, none⟩), .pointer (some ⟨f.rb, 0, none⟩)] 65
structure Bul (w : World) (b : Nat) (f : Fb) (S : BU) : Prop where
  blk : w.heap[b]? = some (bulobj f)
  prm : Prm w f.pb f.m S.most (hol S.run)
  rng : Rng w f.rb S.que S.wait
  ok : S.Ok
section
variable {w w' : World} {b : Nat} {f : Fb} {S : BU} {L : List Int}
theorem Bul.cells (h : Bul w b f S) : w.cell? ⟨b, 0, none⟩ = some (.pointer (some ⟨f.pb, 0, none⟩)) ∧ w.cell? ⟨b, 1, none⟩ = some (.pointer (some ⟨f.rb, 0, none⟩)) := ⟨by rw [cell_of h.blk]; rfl, by rw [cell_of h.blk]; rfl⟩
theorem Bul.lt (h : Bul w b f S) : b < w.heap.size := heap_lt h.blk
theorem Bul.below (h : Bul w b f S) (hb : Below w.heap.size w w') : Bul w' b f S := ⟨kb_below h.blk hb, h.prm.below hb, h.rng.below hb, h.ok⟩
theorem Bul.ali (h : Bul w b f S) (ha : Ali w w') : Bul w' b f S := h.below (ali_below ha)
theorem Bul.alloc (h : Bul w b f S) (o : Obj) : Bul (w.alloc o) b f S := h.below (below_alloc w o)
/-- Blocks of other kinds stay. -/
theorem Bul.not (h : Bul w b f S) {j : Nat} {cs : Array Value} {t : TypeId} {z : Nat × Nat} (hj : w.heap[j]? = some (.cells cs t z)) (ht : t ≠ 80) : ¬ f.F j := by
  rintro (e | e)
  · exact h.prm.other hj e
  · exact h.rng.other hj ht e
theorem Bul.kept (h : Bul w b f S) (hf : Frm f.F w w') {j : Nat} {cs : Array Value} {t : TypeId} {z : Nat × Nat} (hj : w.heap[j]? = some (.cells cs t z)) (ht : t ≠ 80) : w'.heap[j]? = some (.cells cs t z) := by
  rw [hf.block j (heap_lt hj) (h.not hj ht)]; exact hj
theorem Bul.ints (h : Bul w b f S) (hf : Frm f.F w w') {base : Nat} {v : Value} {zs : List Int} (hi : Ints w base v zs) : Ints w' base v zs :=
  hi.frm hf (fun j hj cs hc => h.not hc (by decide) hj)
theorem Fb.ofM {f : Fb} (hf : Frm (· = f.m) w w') : Frm f.F w w' := hf.mono (fun _ _ e => .inl e)
theorem Fb.ofR {f : Fb} (hf : Frm (· = f.rb) w w') : Frm f.F w w' := hf.mono (fun _ _ e => .inr e)
theorem Bul.m_ne (h : Bul w b f S) : f.rb ≠ f.m := by
  obtain ⟨Z, hz, _⟩ := h.rng.blk
  exact h.prm.other hz
/-- The permits have turned. -/
theorem Bul.afterM (h : Bul w b f S) (hf : Frm (· = f.m) w w') (hp : Prm w' f.pb f.m S.most (hol L)) (ok : BU.Ok ⟨S.most, S.que, L, S.wait⟩) : Bul w' b f ⟨S.most, S.que, L, S.wait⟩ :=
  ⟨h.prm.kept hf h.blk, hp, h.rng.frm hf h.m_ne, ok⟩
/-- The queue has turned. -/
theorem Bul.afterR (h : Bul w b f S) (hf : Frm (· = f.rb) w w') (hr : Rng w' f.rb S.que L) (ok : BU.Ok ⟨S.most, S.que, S.run, L⟩) : Bul w' b f ⟨S.most, S.que, S.run, L⟩ :=
  ⟨h.rng.kept hf h.blk (by decide), h.prm.keep (hf.block _ (heap_lt h.prm.blk) (h.rng.other h.prm.blk (by decide))) (hf.block _ h.prm.mp.lt (fun e => h.m_ne e.symm)), hr, ok⟩
theorem Bul.used (h : Bul w b f S) : (hol S.run).length = S.run.length := length_hol _
theorem BU.Ok.wfr {S : BU} (h : S.Ok) {x : Int} (hx : x ∈ S.run) : wfH (x, 0) := ⟨h.wr x hx, by show -9223372036854775808 ≤ (0 : Int) ∧ _; omega⟩
end
theorem wf_h {x : Int} (hx : wf64 x) : wfH (x, 0) := ⟨hx, by show -9223372036854775808 ≤ (0 : Int) ∧ (0 : Int) ≤ _; omega⟩

theorem holder_any (x : Int) (w : World) : Calls Try.prog 32 #[.int .i64 x] w fun r w' => r = .returned (.agg #[.int .i64 x, .int .i64 0]) ∧ Below w.heap.size w w' := by
  go_enter Try.func32, Try.ntmps32
  go_wp2
  refine bodyPost_ret (v := .agg #[.int .i64 x, .int .i64 0]) (by simp [results, Try.results32, go_sem]) rfl ⟨rfl, ?_⟩
  exact below_alloc w _

set_option maxHeartbeats 1000000 in
theorem index_any (A : Option Addr) (n c : Nat) (x : Int) (zs : List Int) (w : World) (hr : Row .i64 w A n zs) (hl : zs.length = n) :
    Calls Try.prog 49 #[.slice A n c, .int .i64 x] w fun r w' => ∃ k : Int, r = .returned (.int .i64 k) ∧ (0 ≤ k ↔ x ∈ zs) ∧ w' = w := by
  have HR := Lib.hid hr
  have HL := Lib.hid hl
  have hm := hr.2.1
  unfold maxLen at hm
  clear hr hl
  go_enter Try.func49, Try.ntmps49
  go_wp2
  go_loopg [8] n (fun k v8 wr => ∃ j : Nat, j + k = n ∧ v8 = .int .i64 j ∧ x ∉ zs.take j ∧ wr = w)
  case atStart => exact ⟨0, by omega, rfl, by simp, rfl⟩
  case round =>
    obtain ⟨j, hj, rfl, hno, rfl⟩ := hrel
    have HJ := Lib.hid hj
    have NO := Lib.hid hno
    clear hj hno
    by_cases hlt : j < n
    · have hlt' : (j : Int) < n := by omega
      obtain ⟨b, off, rfl, q0⟩ := HR.out.at_ hlt
      have hlt2 : j < zs.length := by rw [HL.out]; exact hlt
      have htk := take_next (zs := zs) (j := j) hlt2
      have hmem := getD_mem (zs := zs) (j := j) hlt2
      generalize zs.getD j 0 = z at q0 htk hmem
      have HTK := Lib.hid htk
      have HMEM := Lib.hid hmem
      clear htk hmem hlt2
      by_cases hzx : x = z
      · have hzx' : (x == z) = true := by simp [hzx]
        have HZX := Lib.hid hzx
        clear hzx
        go_wp2
        go_ret
        refine ⟨(j : Int), rfl, ⟨fun _ => ?_, fun _ => by omega⟩, rfl⟩
        rw [HZX.out]
        exact HMEM.out
      · have hzx' : (x == z) = false := by simp [hzx]
        have HZX := Lib.hid hzx
        clear hzx
        go_wp2
        go_roundg (n - (j + 1))
        case measure => have := HJ.out; omega
        case rel =>
          refine ⟨j + 1, by omega, by simp, ?_, rfl⟩
          rw [HTK.out]
          intro hm
          rcases List.mem_append.1 hm with hm | hm
          · exact NO.out hm
          · simp at hm; exact HZX.out hm
    · have hlt' : ¬ (j : Int) < n := by omega
      go_wp2
      go_ret
      have := NO.out
      rw [List.take_of_length_le (by rw [HL.out]; omega)] at this
      exact ⟨-1, rfl, ⟨fun h => by omega, fun h => (this h).elim⟩, rfl⟩
theorem contains_any (A : Option Addr) (n c : Nat) (x : Int) (zs : List Int) (w : World) (hr : Row .i64 w A n zs) (hl : zs.length = n) :
    Calls Try.prog 46 #[.slice A n c, .int .i64 x] w fun r w' => r = .returned (.bool (decide (x ∈ zs))) ∧ w' = w := by
  have HI := Lib.hid (index_any A n c x zs w hr hl)
  clear hr hl
  go_enter Try.func46, Try.ntmps46
  go_wp2_with fail
  refine HI.out.mono ?_
  rintro r w1 ⟨k, rfl, hk, rfl⟩
  have HK := Lib.hid hk
  clear hk HI
  go_wp2
  go_ret
  exact ⟨ret_bool (by rw [decide_eq_decide]; exact HK.out), rfl⟩

theorem busy_bul (b : Nat) (f : Fb) (S : BU) (w : World) (h : Bul w b f S) : Calls Try.prog 13 #[.pointer (some ⟨b, 0, none⟩)] w fun r w' => r = .returned (.int .i64 S.run.length) ∧ w = w' := by
  obtain ⟨c0, c1⟩ := h.cells
  have hu := used_prm f.pb f.m S.most (hol S.run) w h.prm
  rw [length_hol] at hu
  have HU := Lib.hid hu
  clear h hu
  go_enter Try.func13, Try.ntmps13
  go_wp2_with fail
  refine HU.out.mono ?_
  rintro r w1 ⟨rfl, rfl⟩
  go_wp2
  go_ret
  exact ⟨rfl, rfl⟩
theorem busy_none (w : World) : Calls Try.prog 13 #[.pointer none] w fun r w' => r = .returned (.int .i64 0) ∧ w = w' := by
  go_enter Try.func13, Try.ntmps13
  go_wp2
  go_ret
  exact ⟨rfl, rfl⟩
theorem waiting_bul (b : Nat) (f : Fb) (S : BU) (w : World) (h : Bul w b f S) : Calls Try.prog 17 #[.pointer (some ⟨b, 0, none⟩)] w fun r w' => ∃ v, r = .returned v ∧ Ints w' w.heap.size v S.wait ∧ Below w.heap.size w w' := by
  obtain ⟨c0, c1⟩ := h.cells
  have HL := Lib.hid (list_ring f.rb S.que S.wait w h.rng)
  clear h
  go_enter Try.func17, Try.ntmps17
  go_wp2_with fail
  refine HL.out.mono ?_
  rintro r w1 ⟨v, rfl, hi, hb⟩
  have HI := Lib.hid hi
  have HB := Lib.hid hb
  clear hi hb
  go_wp2
  go_ret
  exact ⟨_, rfl, HI.out, HB.out⟩
theorem waiting_none (w : World) : Calls Try.prog 17 #[.pointer none] w fun r w' => r = .returned (.slice none 0 0) ∧ w = w' := by
  go_enter Try.func17, Try.ntmps17
  go_wp2
  go_ret
  exact ⟨rfl, rfl⟩
theorem waits_bul (b : Nat) (f : Fb) (S : BU) (x : Int) (w : World) (h : Bul w b f S) : Calls Try.prog 34 #[.pointer (some ⟨b, 0, none⟩), .int .i64 x] w fun r w' => r = .returned (.bool (decide (x ∈ S.wait))) ∧ Below w.heap.size w w' := by
  obtain ⟨c0, c1⟩ := h.cells
  have HL := Lib.hid (list_ring f.rb S.que S.wait w h.rng)
  clear h
  go_enter Try.func34, Try.ntmps34
  go_wp2_with fail
  refine HL.out.mono ?_
  rintro r w1 ⟨v, rfl, hi, hb⟩
  obtain ⟨A, n, c, hv, hrow, hnl, hnc, hcm⟩ := own_row' hi
  subst hv
  have HC := Lib.hid (contains_any A n c x S.wait w1 hrow hnl.out)
  have HB := Lib.hid hb
  clear hi hb hrow hnl hnc hcm c0 c1 HL
  go_wp2_with fail
  refine HC.out.mono ?_
  rintro r w2 ⟨rfl, rfl⟩
  go_wp2
  go_ret
  exact ⟨rfl, HB.out⟩
set_option maxHeartbeats 1000000 in
theorem runs_bul (b : Nat) (f : Fb) (S : BU) (x : Int) (w : World) (h : Bul w b f S) (hx : wf64 x) : Calls Try.prog 14 #[.pointer (some ⟨b, 0, none⟩), .int .i64 x] w fun r w' => r = .returned (.bool (decide (x ∈ S.run))) ∧ Below w.heap.size w w' := by
  have c0 : ∀ p : Later w, p.v.cell? ⟨b, 0, none⟩ = some (.pointer (some ⟨f.pb, 0, none⟩)) := fun p => p.cell h.cells.1
  have PH : Hid (∀ p : Later w, Calls Try.prog 31 #[.pointer (some ⟨f.pb, 0, none⟩), .agg #[.int .i64 x, .int .i64 0]] p.v fun r w' => r = .returned (.bool (decide (x ∈ S.run))) ∧ Below p.v.heap.size p.v w') :=
    Lib.hid (fun p => by have := holds_prm f.pb f.m S.most (hol S.run) x 0 p.v (h.below p.low).prm (wf_h hx); rwa [show decide ((x, (0 : Int)) ∈ hol S.run) = decide (x ∈ S.run) from decide_eq_decide.2 mem_hol0] at this)
  generalize decide (x ∈ S.run) = t at *
  clear h
  go_enter Try.func14, Try.ntmps14
  go_wp2
  refine wp_region_later (by kernel_rfl) (by kernel_rfl) ?_
  repeat (go_big_quiet_step (first | (go_at_call 32; with_reducible exact Calls.later_of (holder_any x _)) | (go_at_call 31; with_reducible exact Calls.later_of (PH.out _))))
  refine wpQuiet_nil ?_
  rintro _ ⟨⟨w10, b10⟩, rfl⟩
  go_wp2
  go_ret
  exact ⟨rfl, b10⟩
theorem runs_none (x : Int) (w : World) : Calls Try.prog 14 #[.pointer none, .int .i64 x] w fun r w' => r = .returned (.bool false) ∧ Below w.heap.size w w' := by
  go_enter Try.func14, Try.ntmps14
  go_wp2
  refine wp_region_later (by kernel_rfl) (by kernel_rfl) ?_
  repeat (go_big_quiet_step (fail))
  refine wpQuiet_nil ?_
  rintro _ ⟨⟨w10, b10⟩, rfl⟩
  go_wp2
  go_ret
  exact ⟨rfl, b10⟩
end Go.Proofs.Ytnmcnniilihecaa
