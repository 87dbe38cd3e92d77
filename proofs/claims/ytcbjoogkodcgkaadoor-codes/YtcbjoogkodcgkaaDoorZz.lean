/-
  Plain: numbers of seven bits a byte, read and written.
-/
import Derived.Test.YtcbjoogkodcgkaaDoorNum
namespace Go.Proofs.YtcbjoogkodcgkaaDoor
open Go.RowKit
def addB (k u : Nat) (c : UInt8) : Nat := u + c.toNat % 128 * 2 ^ (7 * k) % 18446744073709551616
def unzz (u : Nat) : Int := if u % 2 = 0 then (u / 2 : Nat) else -((u / 2 : Nat) : Int) - 1
theorem pow_dvd64 (k : Nat) (hk : k < 10) : (2 : Nat) ^ (7 * k) ∣ 18446744073709551616 := by
  have : (18446744073709551616 : Nat) = 2 ^ 64 := by decide
  rw [this]
  exact Nat.pow_dvd_pow 2 (by omega)
theorem or_addB (k u : Nat) (c : UInt8) (hk : k < 10) (hu : u < 2 ^ (7 * k)) (hu2 : u < 18446744073709551616) :
    bits .or .u64 (u : Int) (IntKind.u64.wrap (IntKind.u64.wrap (bits .and .u8 (c.toNat : Int) 127) * 2 ^ (7 * k))) = ((addB k u c : Nat) : Int) := by
  have hc := c.toNat_lt
  have e1 : bits .and .u8 (c.toNat : Int) 127 = (c.toNat : Int) % 128 := u8_and127 _ (by omega) (by omega)
  have e2 : IntKind.u64.wrap (IntKind.u64.wrap ((c.toNat : Int) % 128) * 2 ^ (7 * k)) = ((c.toNat % 128 * 2 ^ (7 * k) % 18446744073709551616 : Nat) : Int) := by
    rw [IntKind.wrap_u64, IntKind.wrap_u64, Int.emod_eq_of_lt (a := (c.toNat : Int) % 128) (by omega) (by omega)]
    simp
  have hd : c.toNat % 128 * 2 ^ (7 * k) % 18446744073709551616 % 2 ^ (7 * k) = 0 := by
    rw [Nat.mod_mod_of_dvd _ (pow_dvd64 k hk)]
    exact Nat.mul_mod_left _ _
  have hX : c.toNat % 128 * 2 ^ (7 * k) % 18446744073709551616 < 18446744073709551616 := Nat.mod_lt _ (by decide)
  rw [e1, e2]
  unfold addB
  generalize c.toNat % 128 * 2 ^ (7 * k) % 18446744073709551616 = X at hd hX
  rw [bits_join_low .u64 64 (by decide) wraps_u64 (7 * k) u X (by omega) (by exact_mod_cast hu) (by exact_mod_cast hu2) (by omega) (by exact_mod_cast hd) (by exact_mod_cast hX)]
  simp
theorem addB_lt (k u : Nat) (c : UInt8) (hk : k < 10) (hu : u < 2 ^ (7 * k)) : addB k u c < 2 ^ (7 * (k + 1)) ∧ addB k u c < 18446744073709551616 := by
  have hd : c.toNat % 128 * 2 ^ (7 * k) % 18446744073709551616 % 2 ^ (7 * k) = 0 := by
    rw [Nat.mod_mod_of_dvd _ (pow_dvd64 k hk)]
    exact Nat.mul_mod_left _ _
  have hX : c.toNat % 128 * 2 ^ (7 * k) % 18446744073709551616 < 18446744073709551616 := Nat.mod_lt _ (by decide)
  have hle : c.toNat % 128 * 2 ^ (7 * k) % 18446744073709551616 ≤ c.toNat % 128 * 2 ^ (7 * k) := Nat.mod_le _ _
  have h127 : c.toNat % 128 * 2 ^ (7 * k) ≤ 127 * 2 ^ (7 * k) := Nat.mul_le_mul_right _ (by omega)
  have hp : 2 ^ (7 * (k + 1)) = 128 * 2 ^ (7 * k) := by rw [show 7 * (k + 1) = 7 * k + 7 from by omega, Nat.pow_add]; omega
  unfold addB
  generalize c.toNat % 128 * 2 ^ (7 * k) % 18446744073709551616 = X at hd hX hle
  obtain ⟨r, hr⟩ := pow_dvd64 k hk
  constructor
  · rw [hp]; omega
  · obtain ⟨q, hq⟩ := Nat.dvd_of_mod_eq_zero hd
    generalize hP : 2 ^ (7 * k) = P at *
    have hqr : q < r := by
      rcases Nat.lt_or_ge q r with h | h
      · exact h
      · have := Nat.mul_le_mul_left P h
        omega
    have := Nat.mul_le_mul_left P (show q + 1 ≤ r from hqr)
    rw [Nat.mul_add] at this
    omega
theorem unzz_bits (A : Nat) (hA : A < 18446744073709551616) :
    bits .xor .i64 (wrap64 ((A : Int) / 2)) (wrap64 (-wrap64 (bits .and .u64 (A : Int) 1))) = unzz A := by
  rw [Lib.u64_and1 _ (by omega) (by omega)]
  have e1 : wrap64 ((A : Int) / 2) = ((A / 2 : Nat) : Int) := by unfold wrap64; omega
  rw [e1]
  unfold unzz
  by_cases h : A % 2 = 0
  · rw [if_pos h]
    have e2 : (A : Int) % 2 = 0 := by omega
    rw [e2]
    have hz : wrap64 (-wrap64 0) = 0 := by unfold wrap64; omega
    rw [hz]
    show IntKind.i64.wrap ((BitVec.ofInt 64 ((A / 2 : Nat) : Int) ^^^ BitVec.ofInt 64 0).toNat : Int) = _
    have h2 : (BitVec.ofInt 64 ((A / 2 : Nat) : Int)).toNat = A / 2 := by
      rw [BitVec.ofInt_natCast, BitVec.toNat_ofNat]; exact Nat.mod_eq_of_lt (by omega)
    have h3 : (BitVec.ofInt 64 0).toNat = 0 := by decide
    rw [BitVec.toNat_xor, h2, h3, Nat.xor_zero, IntKind.wrap_i64]
    omega
  · rw [if_neg h]
    have e2 : (A : Int) % 2 = 1 := by omega
    rw [e2]
    have hz : wrap64 (-wrap64 1) = -1 := by unfold wrap64; omega
    rw [hz]
    have := Lib.i64_not (A / 2) (by omega)
    rw [← this]
    show IntKind.i64.wrap ((BitVec.ofInt 64 ((A / 2 : Nat) : Int) ^^^ BitVec.ofInt 64 (-1)).toNat : Int) = IntKind.i64.wrap ((BitVec.ofInt 64 (-1) ^^^ BitVec.ofInt 64 ((A / 2 : Nat) : Int)).toNat : Int)
    rw [BitVec.xor_comm]
theorem unzz_zz (n : Int) (h0 : -9223372036854775808 ≤ n) (h1 : n ≤ 9223372036854775807) : unzz (Lib.zigzag n) = n := by
  unfold unzz Lib.zigzag
  by_cases h : 0 ≤ n
  · rw [if_pos h, if_pos (by omega)]; omega
  · rw [if_neg h, if_neg (by omega)]; omega


/-- Reading a number: from the k-th byte on (f bytes may come), what has come so far is u. -/
def rNum : Nat → Nat → Nat → List UInt8 → Option (Nat × List UInt8)
  | 0, _, _, _ => none
  | _ + 1, _, _, [] => none
  | f + 1, k, u, c :: l => if c.toNat < 128 then some (addB k u c, l) else rNum f (k + 1) (addB k u c) l

theorem rNum_enc : ∀ (f k u x : Nat) (l : List UInt8), k + f = 10 → k < 10 → u + x * 2 ^ (7 * k) < 18446744073709551616 → rNum f k u (Lib.uvarint x ++ l) = some (u + x * 2 ^ (7 * k), l)
  | 0, k, _, _, _, hf, hk, _ => by omega
  | f + 1, k, u, x, l, hf, hk, hx => by
    by_cases hlt : x < 128
    · rw [Lib.uvarint_small hlt, List.singleton_append]
      have hc : (x.toUInt8).toNat = x := by simp [Nat.toUInt8, UInt8.toNat_ofNat']; omega
      simp only [rNum, hc, hlt, if_true, addB]
      rw [Nat.mod_eq_of_lt hlt, Nat.mod_eq_of_lt (by omega)]
    · rw [Lib.uvarint_big (by omega), List.cons_append]
      have hc : ((x % 128 + 128).toUInt8).toNat = x % 128 + 128 := by simp [Nat.toUInt8, UInt8.toNat_ofNat']; omega
      have hp : 2 ^ (7 * (k + 1)) = 128 * 2 ^ (7 * k) := by rw [show 7 * (k + 1) = 7 * k + 7 from by omega, Nat.pow_add]; omega
      have hm : x % 128 * 2 ^ (7 * k) + x / 128 * (128 * 2 ^ (7 * k)) = x * 2 ^ (7 * k) := by
        rw [← Nat.mul_assoc, ← Nat.add_mul]; congr 1; omega
      have h128 : 128 * 2 ^ (7 * k) ≤ x * 2 ^ (7 * k) := Nat.mul_le_mul_right _ (by omega)
      have hk9 : k + 1 < 10 := by
        rcases Nat.lt_or_ge (k + 1) 10 with h | h
        · exact h
        · have hk : k = 9 := by omega
          subst hk
          have : (2 : Nat) ^ (7 * 9) = 9223372036854775808 := by decide
          omega
      simp only [rNum, hc, addB]
      rw [if_neg (by omega), show (x % 128 + 128) % 128 = x % 128 from by omega, Nat.mod_eq_of_lt (by omega)]
      rw [rNum_enc f (k + 1) _ (x / 128) l (by omega) hk9 (by rw [hp]; omega), hp]
      congr 2
      omega
theorem rNum_num (n : Int) (h0 : -9223372036854775808 ≤ n) (h1 : n ≤ 9223372036854775807) (l : List UInt8) : rNum 10 0 0 (Lib.uvarint (Lib.zigzag n) ++ l) = some (Lib.zigzag n, l) := by
  have := Lib.zigzag_lt h0 h1
  rw [rNum_enc 10 0 0 (Lib.zigzag n) l (by omega) (by omega) (by simp; omega)]
  simp
end Go.Proofs.YtcbjoogkodcgkaaDoor
