/- Contract of porpoiselaw03's put: a wheel with timers, of some places farther. -/
import Derived.Test.YtgpebbopggmgbaaLaw03
namespace Go.Proofs.Ytgpebbopggmgbaa
set_option linter.unusedVariables false
open Go.ChangeShapes Go.WideShapes Go.ChangeAt Go.RowKit

/-- A timer without the block that it lies in. -/
def vw (e : Ent) : Ent := ⟨0, e.k, e.i, e.d⟩
theorem map_ins (e : Ent) : ∀ L : List Ent, (ins e L).map vw = ins (vw e) (L.map vw)
  | [] => rfl
  | x :: xs => by
    have h1 : ins e (x :: xs) = if e.d < x.d then e :: x :: xs else x :: ins e xs := rfl
    have h2 : ins (vw e) (vw x :: xs.map vw) = if e.d < x.d then vw e :: vw x :: xs.map vw else vw x :: ins (vw e) (xs.map vw) := rfl
    rw [List.map_cons, h1, h2]
    split
    · rfl
    · rw [List.map_cons, map_ins e xs]
/-- So much farther than now, at most the greatest time. -/
def farD (now z : Int) : Int := now + (if 18446744073709551615 - now < z then 18446744073709551615 - now else z)
def oneV (now : Int) (zs : List Int) (n : Nat) : Ent := ⟨0, 1, n, farD now (zs.getD n 0)⟩
/-- The timers that are put, as they come. -/
def seqV (now : Int) (zs : List Int) : Nat → List Ent
  | 0 => []
  | n + 1 => ins (oneV now zs n) (seqV now zs n)
theorem seqV_length (now : Int) (zs : List Int) : ∀ n, (seqV now zs n).length = n
  | 0 => rfl
  | n + 1 => by rw [seqV, length_ins, seqV_length now zs n]
theorem seqV_mem {now : Int} {zs : List Int} {x : Ent} : ∀ {n : Nat}, x ∈ seqV now zs n ↔ ∃ j, j < n ∧ x = oneV now zs j
  | 0 => by simp [seqV]
  | n + 1 => by
    rw [seqV, mem_ins, seqV_mem]
    constructor
    · rintro (rfl | ⟨j, hj, rfl⟩)
      · exact ⟨n, by omega, rfl⟩
      · exact ⟨j, by omega, rfl⟩
    · rintro ⟨j, hj, rfl⟩
      by_cases h : j = n
      · subst h; exact .inl rfl
      · exact .inr ⟨j, by omega, rfl⟩

theorem Own.lift {w0 w w' : World} {b m : Nat} {now : Int} {L : List Ent} (h : Own w w' b m now L) (hb : Below w0.heap.size w0 w) : Own w0 w' b m now L :=
  ⟨h.whl, hb.trans (h.low.mono hb.size), fun j hj => Nat.le_trans hb.size (h.foot j hj)⟩

set_option maxHeartbeats 2000000 in
theorem put_any (a : Option Addr) (len cap : Nat) (now : Int) (zs : List Int) (w : World) (hr : Row .u64 w a len zs) (hlen : zs.length = len) (h0 : 0 ≤ now) (h1 : now ≤ 18446744073709551615) :
    Calls Try.prog 15 #[.int .u64 now, .slice a len cap] w fun r w' => ∃ b, r = .returned (.pointer (some ⟨b, 0, none⟩)) ∧ ∃ m L, Own w w' b m now L ∧ L.map vw = seqV now zs (if 60 < len then 60 else len) := by
  obtain ⟨n, hn⟩ : ∃ n, (if 60 < len then 60 else len) = n := ⟨_, rfl⟩
  rw [hn]
  have hn' : n ≤ len ∧ n ≤ 60 ∧ (n < 60 → n = len) := by rw [← hn]; split <;> omega
  have hml := hr.2.1
  unfold maxLen at hml
  have HR := Lib.hid hr
  clear hr hn
  go_enter Try.func15, Try.ntmps15
  go_wp2_with fail
  refine (own_new w now w h0 h1 (Below.refl _ _)).mono ?_
  rintro r w1 ⟨b, m, rfl, ho, _, _, _⟩
  have HO := Lib.hid ho
  clear ho
  go_wp2
  go_loopg [6] n (fun k v wr => ∃ (i : Nat) (L : List Ent), i + k = n ∧ v = .int .i64 i ∧ Own w wr b m now L ∧ L.map vw = seqV now zs i)
  case atStart => exact ⟨0, [], by omega, rfl, HO.out, rfl⟩
  case round =>
    obtain ⟨i, L, hk, rfl, ho, hL⟩ := hrel
    have K := Lib.hid hk
    have O := Lib.hid ho
    have HL := Lib.hid hL
    clear hk ho hL
    by_cases hi : i < n
    · have hi1 : (i : Int) < len := by omega
      have hi2 : (i : Int) < 60 := by omega
      obtain ⟨zb, off, ha, hc⟩ : ∃ zb off, a = some ⟨zb, off, none⟩ ∧ w.cell? ⟨zb, off + i, none⟩ = some (.int .u64 (zs.getD i 0)) := by
        rcases HR.out.2.2.1 with h | ⟨zb, off, ha, hc⟩
        · omega
        · exact ⟨zb, off, ha, hc i (by omega)⟩
      subst ha
      have hwf := wf_u64 (wf_getD HR.out.2.2.2 (j := i) (by omega))
      have hblt := cell_lt hc
      have hcr : ∀ v, Below w.heap.size w v → v.cell? ⟨zb, off + i, none⟩ = some (.int .u64 (zs.getD i 0)) := fun v hb => (hb.cell hblt).trans hc
      obtain ⟨z, hz⟩ : ∃ z, z = zs.getD i 0 := ⟨_, rfl⟩
      rw [← hz] at hwf hcr
      obtain ⟨q, hq⟩ : ∃ q, (if 18446744073709551615 - now < z then 18446744073709551615 - now else z) = q := ⟨_, rfl⟩
      have hqb : 0 ≤ q ∧ q ≤ 18446744073709551615 - now := by rw [← hq]; split <;> omega
      have hfd : farD now (zs.getD i 0) = now + q := by rw [← hz, ← hq]; rfl
      have hw1 : IntKind.u64.wrap (18446744073709551615 - now) = 18446744073709551615 - now := by rw [IntKind.wrap_u64]; omega
      have hw2 : IntKind.u64.wrap (now + q) = now + q := by rw [IntKind.wrap_u64]; omega
      have hLlen : L.length = i := by have := congrArg List.length HL.out; rw [List.length_map, seqV_length] at this; exact this
      have hfresh : ∀ e ∈ L, ¬ (e.k = 1 ∧ e.i = (i : Int)) := fun e he hc => by
        have : vw e ∈ seqV now zs i := by rw [← HL.out]; exact List.mem_map_of_mem he
        obtain ⟨j, hj, hje⟩ := seqV_mem.1 this
        have := congrArg Ent.i hje
        have h2 : e.i = (j : Int) := this
        omega
      have HC := Lib.hid hcr
      have FD := Lib.hid hfd
      have LL := Lib.hid hLlen
      have FR := Lib.hid hfresh
      clear hc hcr hblt hfd hLlen hfresh hz
      go_wp2
      go_region_held3 (fun v => v.cell? ⟨zb, off + i, none⟩ = some (.int .u64 z) ∧ Below w.heap.size w v)
        (first | exact ⟨HC.out _ O.out.drew.low, O.out.drew.low⟩ | exact ⟨HC.out _ (O.out.alloc _).drew.low, (O.out.alloc _).drew.low⟩ | exact ⟨HC.out _ ho5.low, ho5.low⟩)
        (first
          | (go_at_call 21; refine (timer_any _ _).mono ?_; rintro r v' ⟨rfl, rfl⟩)
          | (go_at_call 20; refine (own_put w b m now 1 i (now + q) L _ (O.out.alloc _).drew ⟨by omega, by omega⟩ ⟨by omega, by omega⟩ (by omega) (by omega) (by have := LL.out; omega) FR.out).mono ?_; rintro r w5 ⟨rfl, hf5, g5, hg5, ho5⟩))
      all_goals (go_wp2; go_roundg (gk - 1))
      all_goals first
        | (have := K.out; omega)
        | (rw [if_neg (by omega)] at ho5; refine ⟨i + 1, _, by have := K.out; omega, by simp, ho5, ?_⟩; rw [map_ins, HL.out, seqV, oneV, FD.out]; rfl)
    · have hi' : ¬ ((i : Int) < len ∧ (i : Int) < 60) := by have := K.out; omega
      have hin : i = n := by have := K.out; omega
      by_cases hl : (i : Int) < len
      · have h60 : ¬ (i : Int) < 60 := by omega
        go_wp2
        go_ret
        exact ⟨b, rfl, m, L, O.out, by rw [HL.out, hin]⟩
      · go_wp2
        go_ret
        exact ⟨b, rfl, m, L, O.out, by rw [HL.out, hin]⟩

end Go.Proofs.Ytgpebbopggmgbaa
