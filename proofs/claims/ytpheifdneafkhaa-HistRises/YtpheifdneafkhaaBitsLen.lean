/- Contracts of bits.Len, math/bits.Len64 and the reference's Len: what each call returns, the world as it was. (For seats without the rest of package bits; stage 2's Bits and Ref02 hold the same.) -/
import Derived.Test.YtpheifdneafkhaaBitsMath
import Derived.WalkLawsBesides
import Derived.Handy
import Derived.Outline
namespace Go.Proofs.Ytpheifdneafkhaa
set_option linter.unusedVariables false
open Go.ChangeShapes Go.WideShapes Go.ChangeAt Go.RowKit

/-- The table of the lengths below 256, as the library has it. -/
def len8 : ByteArray := ⟨#[0, 1, 2, 2, 3, 3, 3, 3, 4, 4, 4, 4, 4, 4, 4, 4, 5, 5, 5, 5, 5, 5, 5, 5, 5, 5, 5, 5, 5, 5, 5, 5, 6, 6, 6, 6, 6, 6, 6, 6, 6, 6, 6, 6, 6, 6, 6, 6, 6, 6, 6, 6, 6, 6, 6, 6, 6, 6, 6, 6, 6, 6, 6, 6, 7, 7, 7, 7, 7, 7, 7, 7, 7, 7, 7, 7, 7, 7, 7, 7, 7, 7, 7, 7, 7, 7, 7, 7, 7, 7, 7, 7, 7, 7, 7, 7, 7, 7, 7, 7, 7, 7, 7, 7, 7, 7, 7, 7, 7, 7, 7, 7, 7, 7, 7, 7, 7, 7, 7, 7, 7, 7, 7, 7, 7, 7, 7, 7, 8, 8, 8, 8, 8, 8, 8, 8, 8, 8, 8, 8, 8, 8, 8, 8, 8, 8, 8, 8, 8, 8, 8, 8, 8, 8, 8, 8, 8, 8, 8, 8, 8, 8, 8, 8, 8, 8, 8, 8, 8, 8, 8, 8, 8, 8, 8, 8, 8, 8, 8, 8, 8, 8, 8, 8, 8, 8, 8, 8, 8, 8, 8, 8, 8, 8, 8, 8, 8, 8, 8, 8, 8, 8, 8, 8, 8, 8, 8, 8, 8, 8, 8, 8, 8, 8, 8, 8, 8, 8, 8, 8, 8, 8, 8, 8, 8, 8, 8, 8, 8, 8, 8, 8, 8, 8, 8, 8, 8, 8, 8, 8, 8, 8, 8, 8, 8, 8, 8, 8, 8, 8, 8, 8, 8, 8, 8, 8]⟩
set_option maxRecDepth 100000 in
theorem len8_size : len8.size = 256 := by decide +kernel
set_option maxRecDepth 100000 in
theorem len8_all : ∀ i : Fin 256, (len8[i.1]'(by rw [len8_size]; exact i.2)).toNat = lenN i.1 := by decide +kernel
theorem len8_end {x y c : Int} (hy : 0 ≤ y) (hy' : y < 256) (hh : y.toNat < len8.size) (hx : lenS x = c + lenS y) (hb : 0 ≤ c ∧ c ≤ 56) :
    wrap64 (c + wrap64 ((len8[y.toNat]'hh).toNat : Int)) = lenS x := by
  have h1 := len8_all ⟨y.toNat, by omega⟩
  have h2 := lenN_lt 8 (n := y.toNat) (by omega)
  simp only at h1
  rw [h1, hx]
  unfold lenS wrap64
  omega
theorem len8_end0 {x : Int} (hy : 0 ≤ x) (hy' : x < 256) (hh : x.toNat < len8.size) :
    wrap64 (wrap64 ((len8[x.toNat]'hh).toNat : Int)) = lenS x := by
  have := len8_end (x := x) (y := x) (c := 0) hy hy' hh (by omega) (by omega)
  rwa [Int.zero_add] at this

set_option maxRecDepth 100000 in
set_option maxHeartbeats 400000 in
theorem len64_any (x : Int) (w : World) (h : 0 ≤ x) (h' : x ≤ 18446744073709551615) :
    Calls Try.prog 33 #[.int .u64 x] w fun e w' => e = .returned (.int .i64 (lenS x)) ∧ w = w' := by
  by_cases h1 : 4294967296 ≤ x
  · have e := lenS_32 h1
    go_enter Try.func33, Try.ntmps33
    clear e
    go_wp2
    all_goals go_ret
    · exact ⟨ret_int (len8_end (by omega) (by omega) _ (by rw [lenS_32 h1, lenS_16 (by assumption), lenS_8 (by assumption)]; omega) (by omega)), rfl⟩
    · exact ⟨ret_int (len8_end (by omega) (by omega) _ (by rw [lenS_32 h1, lenS_16 (by assumption)]; omega) (by omega)), rfl⟩
    · exact ⟨ret_int (len8_end (by omega) (by omega) _ (by rw [lenS_32 h1, lenS_8 (by assumption)]; omega) (by omega)), rfl⟩
    · exact ⟨ret_int (len8_end (by omega) (by omega) _ (by rw [lenS_32 h1]) (by omega)), rfl⟩
  · go_enter Try.func33, Try.ntmps33
    go_wp2
    all_goals go_ret
    · exact ⟨ret_int (len8_end (by omega) (by omega) _ (by rw [lenS_16 (by assumption), lenS_8 (by assumption)]; omega) (by omega)), rfl⟩
    · exact ⟨ret_int (len8_end (by omega) (by omega) _ (by rw [lenS_16 (by assumption)]) (by omega)), rfl⟩
    · exact ⟨ret_int (len8_end (by omega) (by omega) _ (by rw [lenS_8 (by assumption)]) (by omega)), rfl⟩
    · exact ⟨ret_int (len8_end0 (by omega) (by omega) _), rfl⟩

theorem len_any (x : Int) (w : World) (h : 0 ≤ x) (h' : x ≤ 18446744073709551615) :
    Calls Try.prog 23 #[.int .u64 x] w fun e w' => e = .returned (.int .i64 (lenS x)) ∧ w = w' := by
  go_enter Try.func23, Try.ntmps23
  go_wp2_with (go_at_call 33; refine (len64_any _ _ h h').mono ?_; rintro e w' ⟨rfl, rfl⟩)
  go_ret
  exact ⟨rfl, rfl⟩

end Go.Proofs.Ytpheifdneafkhaa
