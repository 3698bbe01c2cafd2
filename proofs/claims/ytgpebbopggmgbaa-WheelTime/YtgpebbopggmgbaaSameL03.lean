/- Contract of porpoiselaw03's same: a wheel is as the document has it. -/
import Derived.Test.YtgpebbopggmgbaaDo03
namespace Go.Proofs.Ytgpebbopggmgbaa
set_option linter.unusedVariables false
open Go.ChangeShapes Go.WideShapes Go.ChangeAt Go.RowKit

set_option maxHeartbeats 2000000 in
theorem same_any (w0 : World) (b m : Nat) (now : Int) (L : List Ent) (A : Option Addr) (len cap : Nat) (w : World) (h : Sync w0 w b m now L A len cap) (hlen : L.length ≤ 1000) :
    Calls Try.prog 14 #[.pointer (some ⟨b, 0, none⟩), .agg #[.int .u64 now, .slice A len cap]] w fun r w' => r = .returned (.bool true) ∧ Below w.heap.size w w' := by
  have hrl := h.row.1
  have hb1 := below_alloc w (xobj now A len cap)
  have hs1 := h.alloc (xobj now A len cap)
  have hx1 := heap_alloc_at w (xobj now A len cap)
  have hne := next_whl b m now L _ hs1.own.whl
  have S1 := Lib.hid hs1
  have X1 := Lib.hid hx1
  have B1 := Lib.hid hb1
  clear hb1 hs1 hx1 h
  go_enter Try.func14, Try.ntmps14
  cases L with
  | nil =>
    have hl0 : len = 0 := by simpa using hrl.symm
    subst hl0
    rw [show nextV [] = .tuple #[.int .u64 0, .bool false] from rfl] at hne
    go_wp2_with fail
    refine hne.mono ?_
    clear hne
    rintro r w2 ⟨rfl, ha⟩
    have hS2 := S1.out.ali ha
    have hB2 := Lib.hid (below_ali B1.out ha)
    obtain ⟨x0, x1⟩ := xcells (w := w2) (by rw [ha.heap]; exact X1.out)
    have hwn : ∀ n, Whl (w2.drewN n) b m now [] := fun n => hS2.own.whl.ali ⟨rfl, rfl, rfl, rfl⟩
    have WN := Lib.hid hwn
    clear hS2 hwn ha
    go_wp2
    go_quiet (first | (go_at_call 17; exact (now_whl b m now [] _ (WN.out _)).mono (fun _ _ hh => ⟨hh.1, _, hh.2.symm⟩)) | (go_at_call 18; exact (len_whl b m now [] _ (WN.out _)).mono (fun _ _ hh => ⟨hh.1, _, hh.2.symm⟩)))
    go_wp2
    go_ret
    exact ⟨ret_bool (by simp), below_drewN hB2.out _⟩
  | cons e l =>
    rw [show nextV (e :: l) = .tuple #[.int .u64 e.d, .bool true] from rfl] at hne
    have hl0 : (0 : Int) < (len : Int) := by simp at hrl; omega
    have hl1 : 0 < len := by omega
    go_wp2_with fail
    refine hne.mono ?_
    clear hne
    rintro r w2 ⟨rfl, ha⟩
    have hS2 := S1.out.ali ha
    have hB2 := Lib.hid (below_ali B1.out ha)
    obtain ⟨x0, x1⟩ := xcells (w := w2) (by rw [ha.heap]; exact X1.out)
    have hwn : ∀ n, Whl (w2.drewN n) b m now (e :: l) := fun n => hS2.own.whl.ali ⟨rfl, rfl, rfl, rfl⟩
    obtain ⟨blk, off, e', rfl, hV, _, _, q2⟩ := hS2.row.at_ hl1
    obtain rfl : e = e' := by simpa using hV
    simp only [Nat.zero_mul, Nat.add_zero] at q2
    have WN := Lib.hid hwn
    have HRL := Lib.hid hrl
    clear hS2 hwn ha hV hrl
    rw [← HRL.out] at x1 hl0 hl1 ⊢
    go_wp2
    go_quiet (first | (go_at_call 17; exact (now_whl b m now (e :: l) _ (WN.out _)).mono (fun _ _ hh => ⟨hh.1, _, hh.2.symm⟩)) | (go_at_call 18; exact (len_whl b m now (e :: l) _ (WN.out _)).mono (fun _ _ hh => ⟨hh.1, _, hh.2.symm⟩)))
    go_wp2
    go_ret
    exact ⟨ret_bool (by simp), below_drewN hB2.out _⟩

end Go.Proofs.Ytgpebbopggmgbaa
