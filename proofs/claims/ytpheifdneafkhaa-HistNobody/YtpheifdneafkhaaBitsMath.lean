/- Plain numbers behind package bits: lengths, blocks, levels, bytes; nothing of the program. -/
import Derived.Test.YtpheifdneafkhaaKit
import Derived.Laws.BitsAllLaws
namespace Go.Proofs.Ytpheifdneafkhaa
set_option linter.unusedVariables false

/-- How many bits a number has. -/
def lenN (n : Nat) : Nat := if n = 0 then 0 else Nat.log2 n + 1
def lenS (x : Int) : Int := (lenN x.toNat : Int)
theorem lenN_zero : lenN 0 = 0 := rfl
theorem lenN_step {n : Nat} (h : 0 < n) : lenN n = lenN (n / 2) + 1 := by
  unfold lenN
  rw [if_neg (by omega), Nat.log2_def]
  by_cases h2 : 2 ≤ n
  · rw [if_pos h2, if_neg (by omega)]
  · rw [if_neg h2, if_pos (by omega)]
theorem lenN_shift : ∀ (k : Nat) {n : Nat}, 2 ^ k ≤ n → lenN n = k + lenN (n / 2 ^ k)
  | 0, n, _ => by simp
  | k + 1, n, h => by
    have hp : 0 < 2 ^ k := Nat.two_pow_pos k
    rw [Nat.pow_succ] at h
    rw [lenN_step (by omega), lenN_shift k (n := n / 2) (by omega), Nat.div_div_eq_div_mul, Nat.pow_succ, Nat.mul_comm 2]
    omega
theorem lenN_lt : ∀ (k : Nat) {n : Nat}, n < 2 ^ k → lenN n ≤ k
  | 0, n, h => by have : n = 0 := by simpa using h
                  subst this; simp [lenN_zero]
  | k + 1, n, h => by
    by_cases h0 : n = 0
    · subst h0; simp [lenN_zero]
    · rw [Nat.pow_succ] at h
      rw [lenN_step (by omega)]
      have := lenN_lt k (n := n / 2) (by omega)
      omega
theorem lenN_pow : ∀ (f : Nat) {n : Nat}, n < 2 ^ f → 0 < n → n / 2 ^ (lenN n - 1) = 1
  | 0, n, h, h0 => by simp at h; omega
  | f + 1, n, h, h0 => by
    rw [Nat.pow_succ] at h
    rw [lenN_step h0]
    by_cases h1 : n = 1
    · subst h1; rfl
    · have ih := lenN_pow f (n := n / 2) (by omega) (by omega)
      have hs := lenN_step (n := n / 2) (by omega)
      rw [show lenN (n / 2) + 1 - 1 = (lenN (n / 2) - 1) + 1 by omega, Nat.pow_succ, Nat.mul_comm, ← Nat.div_div_eq_div_mul]
      exact ih

theorem lenS_bd {x : Int} (h : 0 ≤ x) (h' : x ≤ 18446744073709551615) : 0 ≤ lenS x ∧ lenS x ≤ 64 := by
  unfold lenS
  have := lenN_lt 64 (n := x.toNat) (by omega)
  omega
theorem lenS_zero : lenS 0 = 0 := rfl
theorem lenS_half {x : Int} (h : 0 < x) : lenS x = lenS (x / 2) + 1 := by
  unfold lenS
  rw [lenN_step (n := x.toNat) (by omega)]
  have : (x / 2).toNat = x.toNat / 2 := by omega
  rw [this]; omega
theorem lenS_pos {x : Int} (h : 0 < x) : 1 ≤ lenS x := by
  have := lenS_half h
  unfold lenS at *; omega
theorem lenS_top {x : Int} (h : 0 < x) (h' : x ≤ 18446744073709551615) : x / 2 ^ (lenS x - 1).toNat = 1 := by
  obtain ⟨n, rfl⟩ := Int.eq_ofNat_of_zero_le (Int.le_of_lt h)
  have := lenN_pow 64 (n := n) (by omega) (by omega)
  have hp := lenS_pos h
  unfold lenS at *
  rw [Int.toNat_natCast] at *
  have e : ((lenN n : Int) - 1).toNat = lenN n - 1 := by omega
  rw [e]
  have : ((n / 2 ^ (lenN n - 1) : Nat) : Int) = ((1 : Nat) : Int) := by rw [this]
  rw [Int.natCast_ediv, Int.natCast_pow] at this
  exact this
theorem lenS_32 {x : Int} (h : 4294967296 ≤ x) : lenS x = 32 + lenS (x / 4294967296) := by
  unfold lenS
  rw [lenN_shift 32 (n := x.toNat) (by omega)]
  have : (x / 4294967296).toNat = x.toNat / 2 ^ 32 := by omega
  rw [this]; omega
theorem lenS_16 {x : Int} (h : 65536 ≤ x) : lenS x = 16 + lenS (x / 65536) := by
  unfold lenS
  rw [lenN_shift 16 (n := x.toNat) (by omega)]
  have : (x / 65536).toNat = x.toNat / 2 ^ 16 := by omega
  rw [this]; omega
theorem lenS_8 {x : Int} (h : 256 ≤ x) : lenS x = 8 + lenS (x / 256) := by
  unfold lenS
  rw [lenN_shift 8 (n := x.toNat) (by omega)]
  have : (x / 256).toNat = x.toNat / 2 ^ 8 := by omega
  rw [this]; omega

/-- A time without its lowest six bits, so many times. -/
def blkS (t l : Int) : Int := t / 64 ^ l.toNat
theorem pow64 (n : Nat) : (0 : Int) < 64 ^ n := Int.pow_pos (by decide)
theorem blkS_bd {t : Int} (l : Int) (h : 0 ≤ t) : 0 ≤ blkS t l ∧ blkS t l ≤ t := by
  unfold blkS
  have hp := pow64 l.toNat
  exact ⟨Int.ediv_nonneg h (by omega), Int.ediv_le_self _ h⟩
theorem blkS_zero {l : Int} : blkS 0 l = 0 := by unfold blkS; simp
theorem blkS_none {t l : Int} (h : l ≤ 0) : blkS t l = t := by
  unfold blkS; rw [show l.toNat = 0 by omega]; simp
theorem blkS_step {t : Int} (n : Nat) : blkS t (n + 1 : Nat) = blkS t n / 64 := by
  unfold blkS
  rw [Int.toNat_natCast, Int.toNat_natCast, Int.pow_succ, Int.ediv_ediv_of_nonneg (Int.le_of_lt (pow64 n))]
theorem blkS_lit {t : Int} : blkS t 1 = t / 64 ∧ blkS t 2 = t / 4096 ∧ blkS t 3 = t / 262144 ∧ blkS t 4 = t / 16777216 := ⟨rfl, rfl, rfl, rfl⟩
theorem pow_two64 (n : Nat) : (2 : Int) ^ (6 * n) = 64 ^ n := by rw [Int.pow_mul]; rfl
theorem blkS_high {t l : Int} (h : 0 ≤ t) (h' : t ≤ 18446744073709551615) (hl : 11 ≤ l) : blkS t l = 0 := by
  unfold blkS
  have h1 : (64 : Int) ^ 11 ≤ 64 ^ l.toNat := by
    have := Nat.pow_le_pow_right (n := 64) (by decide) (show 11 ≤ l.toNat by omega)
    have e : ((64 ^ 11 : Nat) : Int) ≤ ((64 ^ l.toNat : Nat) : Int) := Int.ofNat_le.mpr this
    rw [Int.natCast_pow, Int.natCast_pow] at e
    exact e
  have h2 : (64 : Int) ^ 11 = 73786976294838206464 := rfl
  exact Int.ediv_eq_zero_of_lt h (by omega)
theorem blkS_shift {t l : Int} (_h : 0 ≤ t) (_h' : t ≤ 18446744073709551615) (h0 : 0 ≤ l) (hl : l ≤ 10) : t / 2 ^ (6 * l).toNat = blkS t l := by
  unfold blkS
  rw [show (6 * l).toNat = 6 * l.toNat by omega, pow_two64]
theorem blkS_blk {t : Int} (m n : Nat) : blkS (blkS t m) n = blkS t (m + n : Nat) := by
  unfold blkS
  simp only [Int.toNat_natCast]
  rw [Int.pow_add, Int.ediv_ediv_of_nonneg (Int.le_of_lt (pow64 m))]
theorem blkS_next {t : Int} (m : Nat) : blkS (t + 64 ^ m) m = blkS t m + 1 := by
  unfold blkS
  simp only [Int.toNat_natCast]
  rw [Int.add_ediv_of_dvd_right (Int.dvd_refl _), Int.ediv_self (Int.ne_of_gt (pow64 m))]

/-- The level at which two times meet. -/
def levS (a b : Int) : Int :=
  if a / 64 = b / 64 then 0 else if a / 4096 = b / 4096 then 1 else if a / 262144 = b / 262144 then 2 else if a / 16777216 = b / 16777216 then 3 else 4
theorem levS_bd (a b : Int) : 0 ≤ levS a b ∧ levS a b ≤ 4 := by unfold levS; repeat' split <;> omega
theorem levS_comm (a b : Int) : levS a b = levS b a := by
  unfold levS
  simp only [@eq_comm _ (a / _)]

/-- A number's eight bytes. -/
def bytesL (x : Int) : List Int := [x / 72057594037927936 % 256, x / 281474976710656 % 256, x / 1099511627776 % 256, x / 4294967296 % 256, x / 16777216 % 256, x / 65536 % 256, x / 256 % 256, x % 256]
def bytesA (x : Int) : Array Value := #[.int .u8 (x / 72057594037927936 % 256), .int .u8 (x / 281474976710656 % 256), .int .u8 (x / 1099511627776 % 256), .int .u8 (x / 4294967296 % 256), .int .u8 (x / 16777216 % 256), .int .u8 (x / 65536 % 256), .int .u8 (x / 256 % 256), .int .u8 (x % 256)]
/-- Bytes read as a number. -/
def numS (l : List Int) : Int := l.foldl (fun x b => 256 * x + b) 0
/-- The last eight of some bytes, as a number. -/
def fromS (l : List Int) : Int := numS (l.drop (l.length - 8))
theorem numS_snoc (l : List Int) (b : Int) : numS (l ++ [b]) = 256 * numS l + b := by unfold numS; rw [List.foldl_append]; rfl
theorem numS_bd : ∀ (l : List Int), (∀ b ∈ l, 0 ≤ b ∧ b ≤ 255) → 0 ≤ numS l ∧ numS l < 256 ^ l.length := by
  have aux : ∀ (l : List Int) (s : Int), (∀ b ∈ l, 0 ≤ b ∧ b ≤ 255) → 0 ≤ s → 0 ≤ l.foldl (fun x b => 256 * x + b) s ∧ l.foldl (fun x b => 256 * x + b) s < (s + 1) * 256 ^ l.length := by
    intro l
    induction l with
    | nil => intro s _ h; simp; omega
    | cons b l ih =>
      intro s hl hs
      have hb := hl b (by simp)
      have := ih (256 * s + b) (fun x hx => hl x (by simp [hx])) (by omega)
      refine ⟨this.1, Int.lt_of_lt_of_le this.2 ?_⟩
      rw [List.length_cons, Int.pow_succ, Int.mul_comm (256 ^ l.length) 256, ← Int.mul_assoc]
      exact Int.mul_le_mul_of_nonneg_right (by omega) (Int.le_of_lt (Int.pow_pos (by decide)))
  intro l h
  have := aux l 0 h (by omega)
  simpa [numS] using this
theorem numS_lt {l : List Int} {n : Nat} (h : ∀ b ∈ l, 0 ≤ b ∧ b ≤ 255) (hl : l.length ≤ n) : 0 ≤ numS l ∧ numS l < 256 ^ n := by
  have := numS_bd l h
  refine ⟨this.1, Int.lt_of_lt_of_le this.2 ?_⟩
  have := Nat.pow_le_pow_right (n := 256) (by decide) hl
  have e : ((256 ^ l.length : Nat) : Int) ≤ ((256 ^ n : Nat) : Int) := Int.ofNat_le.mpr this
  rw [Int.natCast_pow, Int.natCast_pow] at e
  exact e
theorem numS_zeros (n : Nat) (l : List Int) : numS (List.replicate n 0 ++ l) = numS l := by
  unfold numS
  rw [List.foldl_append]
  have : ∀ n, (List.replicate n (0 : Int)).foldl (fun x b => 256 * x + b) 0 = 0 := by
    intro n
    induction n with
    | zero => rfl
    | succ n ih => rw [List.replicate_succ, List.foldl_cons]; exact ih
  rw [this]
theorem fromS_bytes {x : Int} (h : 0 ≤ x) (h' : x ≤ 18446744073709551615) : fromS (bytesL x) = x := by
  unfold fromS bytesL numS
  simp
  omega
theorem fromS_short {l : List Int} (h : l.length ≤ 8) : fromS l = numS l := by
  unfold fromS
  rw [show l.length - 8 = 0 by omega, List.drop_zero]
theorem fromS_long (m l : List Int) : fromS (m ++ (List.replicate 8 0 ++ l)) = fromS l := by
  unfold fromS
  have e : (m ++ (List.replicate 8 0 ++ l)).length - 8 = m.length + l.length := by simp; omega
  rw [e, List.drop_append, List.drop_of_length_le (by omega), List.nil_append, show m.length + l.length - m.length = l.length by omega, List.drop_append]
  by_cases h : l.length ≤ 8
  · rw [show l.length - 8 = 0 by omega]
    rw [show l.length - (List.replicate 8 (0 : Int)).length = 0 by simp; omega]
    rw [List.drop_replicate, numS_zeros]
  · rw [List.drop_of_length_le (by simp; omega), List.nil_append]
    simp
theorem numS_take (zs : List Int) (k : Nat) (hk : k < zs.length) : numS (zs.take (k + 1)) = 256 * numS (zs.take k) + zs.getD k 0 := by
  rw [List.take_add_one, List.getElem?_eq_getElem hk, Option.toList_some, numS_snoc]
  simp [List.getD, List.getElem?_eq_getElem hk]
theorem fromS_take_short (zs : List Int) (n : Nat) (h : n ≤ 8) : fromS (zs.take n) = numS (zs.take n) := fromS_short (by simp; omega)
theorem fromS_take_long (zs : List Int) (m : Nat) (h : m + 8 ≤ zs.length) : fromS (zs.take (m + 8)) = numS ((zs.drop m).take 8) := by
  unfold fromS
  rw [List.length_take, show min (m + 8) zs.length - 8 = m by omega, List.drop_take]
  simp
theorem numS_in (zs : List Int) (k : Nat) (h : ∀ b ∈ zs, 0 ≤ b ∧ b ≤ 255) (hk : k ≤ 7) : 0 ≤ numS (zs.take k) ∧ numS (zs.take k) < 72057594037927936 :=
  numS_lt (n := 7) (fun b hb => h b (List.mem_of_mem_take hb)) (by simp; omega)
theorem fromS_bd (zs : List Int) (h : ∀ b ∈ zs, 0 ≤ b ∧ b ≤ 255) : 0 ≤ fromS zs ∧ fromS zs ≤ 18446744073709551615 := by
  have := numS_lt (n := 8) (l := zs.drop (zs.length - 8)) (fun b hb => h b (List.mem_of_mem_drop hb)) (by simp; omega)
  unfold fromS
  have e : (256 : Int) ^ 8 = 18446744073709551616 := rfl
  omega
theorem or_byte {x b : Int} (hx : 0 ≤ x) (hx' : x < 72057594037927936) (hb : 0 ≤ b) (hb' : b ≤ 255) : bits BinOp.or IntKind.u64 (x * 256) b = 256 * x + b := by
  rw [u64_or (x * 256) b (by omega) (by omega) hb (by omega)]
  rw [nat_join 8 (x * 256).toNat b.toNat (by omega) (by omega)]
  omega
theorem and63 {x : Int} (hx : 0 ≤ x) (hx' : x ≤ 18446744073709551615) : bits BinOp.and IntKind.u64 x 63 = x % 64 := by
  rw [u64_and x 63 hx (by omega) (by omega) (by omega), show (63 : Int).toNat = 63 from rfl, nat_mask6]
  omega
/-- A number as a shorter one. -/
def narS (x : Int) : Int := (x + 2147483648) % 4294967296 - 2147483648
end Go.Proofs.Ytpheifdneafkhaa
