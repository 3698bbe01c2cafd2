/- Contracts of firstOf and first. -/
import Derived.Test.YtgpebbopggmgbaaWhFind
namespace Go.Proofs.Ytgpebbopggmgbaa
set_option linter.unusedVariables false
open Go.ChangeShapes Go.WideShapes Go.ChangeAt Go.RowKit

set_option maxHeartbeats 1000000 in
theorem firstOf_any (b m l : Nat) (now : Int) (ls : Nat → List Ent) (w : World) (h : Mem w b m now ls) (hl : l < 4) :
    Calls Try.prog 34 #[.pointer (some ⟨b, 0, none⟩), .int .i64 l] w fun r w' => Ali w w' ∧ ∃ q : Option Ent, r = .returned (ptr q) ∧
      (match q with
        | none => ∀ s, s < 64 → ls (l * 64 + s) = []
        | some e => ∃ s, s < 64 ∧ (∀ s', s' < s → ls (l * 64 + s') = []) ∧ ((l = 0 ∧ (ls (l * 64 + s)).head? = some e) ∨ Soon (ls (l * 64 + s)) e)) := by
  have hl0 : (0 : Int) ≤ (l : Int) := by omega
  have hl4 : (l : Int) < 4 := by omega
  go_enter Try.func34, Try.ntmps34
  go_wp2
  go_loopg [7] 64 (fun k v wr => ∃ s : Nat, s + k = 64 ∧ v = .int .i64 s ∧ (∀ s', s' < s → ls (l * 64 + s') = []) ∧ wr = w)
  case atStart => exact ⟨0, rfl, rfl, by omega, rfl⟩
  case round =>
    obtain ⟨s, hk, rfl, hs, rfl⟩ := hrel
    have S := Lib.hid hs
    have K := Lib.hid hk
    clear hs
    by_cases h64 : s < 64
    · have h64' : (s : Int) < 64 := by omega
      have hs0 : (0 : Int) ≤ (s : Int) := by omega
      have hi : l * 64 + s < 257 := by omega
      obtain ⟨cs, _, _, _, _, hc, _⟩ := h.cells
      have hc1 := (hc _ hi).1
      rw [show 2 + 2 * (l * 64 + s) = 2 + l * 128 + s * 2 by omega] at hc1
      have hseg := h.lnk _ hi
      cases hls : ls (l * 64 + s) with
      | nil =>
        rw [hls] at hc1
        rw [show ptr ([] : List Ent).head? = .pointer none from rfl] at hc1
        have Z := Lib.hid hls
        clear hls hc hseg h hk
        go_wp2
        go_roundg (gk - 1)
        case measure => have := K.out; omega
        case rel =>
          refine ⟨s + 1, by have := K.out; omega, by simp, fun s' hs' => ?_, rfl⟩
          by_cases he : s' = s
          · subst he; exact Z.out
          · exact S.out s' (by omega)
      | cons f r =>
        rw [hls] at hc1 hseg
        rw [show ptr (f :: r).head? = .pointer (some ⟨f.g, 0, none⟩) from rfl] at hc1
        have Z := Lib.hid hls
        clear hls hc h hk
        by_cases hz : l = 0
        · have hz' : ((l : Int) == 0) = true := by simp [hz]
          have Y := Lib.hid hz
          clear hseg hz
          go_wp2
          go_ret
          exact ⟨Ali.refl _, some f, rfl, s, h64, S.out, .inl ⟨Y.out, by rw [Z.out]; rfl⟩⟩
        · have hz' : ((l : Int) == 0) = false := by simp; omega
          have hso := soonest_any b (2 + l * 128 + s * 2) (f :: r) _ hc1 hseg
          clear hseg
          go_wp2_with (first | (go_at_call 35; refine hso.mono ?_; rintro e w' ⟨q, rfl, hq, ha⟩) | go_in)
          go_ret
          refine ⟨ha, q, rfl, ?_⟩
          cases q with
          | none => cases hq
          | some e => exact ⟨s, h64, S.out, .inr (by rw [Z.out]; exact hq)⟩
    · have h64' : ¬ (s : Int) < 64 := by omega
      clear h hk
      go_wp2
      go_ret
      exact ⟨Ali.refl _, none, rfl, fun s' hs' => S.out s' (by omega)⟩

theorem firstOf_lev (b m l : Nat) (now : Int) (L : List Ent) (w : World) (h : Whl w b m now L) (hl : l < 4) :
    Calls Try.prog 34 #[.pointer (some ⟨b, 0, none⟩), .int .i64 l] w fun r w' => Ali w w' ∧ ∃ q : Option Ent, r = .returned (ptr q) ∧ LevFirst now L l q := by
  obtain ⟨ls, hm, hi⟩ := h.ex
  refine (firstOf_any b m l now ls w hm hl).mono ?_
  rintro r w' ⟨ha, q, rfl, hq⟩
  refine ⟨ha, q, rfl, ?_⟩
  cases q with
  | none => exact hi.lev_none hl hq
  | some e =>
    obtain ⟨s, hs, h1, h2⟩ := hq
    exact hi.lev_some hl hs h1 h2

theorem far_lev (b m : Nat) (now : Int) (L : List Ent) (w : World) (h : Whl w b m now L) :
    Calls Try.prog 35 #[.pointer (some ⟨b, 514, none⟩)] w fun r w' => Ali w w' ∧ ∃ q : Option Ent, r = .returned (ptr q) ∧ LevFirst now L 4 q := by
  obtain ⟨ls, hm, hi⟩ := h.ex
  obtain ⟨cs, _, _, _, _, hc, _⟩ := hm.cells
  refine (soonest_any b 514 (ls 256) w (hc 256 (by omega)).1 (hm.lnk 256 (by omega))).mono ?_
  rintro r w' ⟨q, rfl, hq, ha⟩
  refine ⟨ha, q, rfl, ?_⟩
  cases q with
  | none => exact hi.far_none hq
  | some e => exact hi.far hq

set_option maxHeartbeats 1000000 in
theorem first_any (b m : Nat) (now top : Int) (L : List Ent) (w : World) (h : Whl w b m now L) (ht : 0 ≤ top) (ht' : top ≤ 4) :
    Calls Try.prog 28 #[.pointer (some ⟨b, 0, none⟩), .int .i64 top] w fun r w' => r = .returned (ptr (upTo now L top)) ∧ Ali w w' := by
  obtain ⟨n, hn⟩ : ∃ n : Nat, (if 4 < top + 1 then 4 else top + 1) = n ∧ n ≤ 4 ∧ (n : Int) ≤ top + 1 ∧ (top < 4 → (n : Int) = top + 1) ∧ (4 ≤ top → n = 4) := by
    refine ⟨(if 4 < top + 1 then 4 else top + 1).toNat, ?_⟩
    split <;> omega
  have hsorted := Lib.hid h.sorted
  have hdue := Lib.hid (fun e he => (h.due e he).1 : ∀ e ∈ L, now ≤ e.d)
  have hmin := hn.1
  have N := Lib.hid hn.2
  clear hn
  go_enter Try.func28, Try.ntmps28
  go_wp2
  clear hmin
  go_loopg [10] n (fun k v wr => ∃ s : Nat, s + k = n ∧ v = .int .i64 s ∧ (∀ l' : Int, 0 ≤ l' → l' < s → LevFirst now L l' none) ∧ Ali w wr)
  case atStart => exact ⟨0, by omega, rfl, by intro l' h0 h1; omega, Ali.refl _⟩
  case round =>
    obtain ⟨s, hk, rfl, hs, ha⟩ := hrel
    have K := Lib.hid hk
    have S := Lib.hid hs
    have A := Lib.hid ha
    have hw := h.ali ha
    clear h hk hs ha
    obtain ⟨hn4, hnt, hn1, hn2⟩ := N.out
    by_cases hsn : s < n
    · have hsn' : (s : Int) < n := by omega
      have hlt4 : (s : Int) < 4 := by omega
      have hf := firstOf_lev b m s now L wr hw (by omega)
      clear hw hn4 hnt hn1 hn2
      go_wp2_with fail
      refine hf.mono ?_
      clear hf
      rintro e w' ⟨ha, q, rfl, hq⟩
      have HA := Lib.hid ha
      have HQ := Lib.hid hq
      clear ha hq
      cases q with
      | none =>
        rw [ptr_none]
        go_wp2
        go_roundg (gk - 1)
        case measure => have := K.out; omega
        case rel =>
          refine ⟨s + 1, by have := K.out; omega, by simp, fun l' h0 h1 => ?_, A.out.trans HA.out⟩
          by_cases he : l' = s
          · rw [he]; exact HQ.out
          · exact S.out l' h0 (by omega)
      | some e =>
        rw [ptr_some]
        go_wp2
        go_ret
        refine ⟨?_, A.out.trans HA.out⟩
        rw [← upTo_some hsorted.out hdue.out S.out HQ.out (by have := N.out; omega)]
        rfl
    · have hsn' : ¬ (s : Int) < n := by omega
      have hsn2 : s = n := by have := K.out; omega
      by_cases ht4 : top < 4
      · clear hw hn4 hnt hn1 hn2
        go_wp2
        go_ret
        refine ⟨?_, A.out⟩
        rw [← upTo_none (top := top) (fun l' h0 h1 => S.out l' h0 (by have := N.out; omega))]
        rfl
      · have hf := far_lev b m now L wr hw
        clear hw hn4 hnt hn1 hn2
        go_wp2_with fail
        refine hf.mono ?_
        clear hf
        rintro e w' ⟨ha, q, rfl, hq⟩
        go_wp2
        go_ret
        refine ⟨?_, A.out.trans ha⟩
        obtain rfl : top = 4 := by omega
        have hs4 : (s : Int) = 4 := by have := N.out; omega
        cases q with
        | none =>
          rw [← upTo_none (top := 4) (fun l' h0 h1 => by
            by_cases he : l' = 4
            · rw [he]; exact hq
            · exact S.out l' h0 (by omega))]
          rfl
        | some e =>
          rw [← upTo_some hsorted.out hdue.out (fun l' h0 h1 => S.out l' h0 (by omega)) hq (by omega)]
          rfl

end Go.Proofs.Ytgpebbopggmgbaa
