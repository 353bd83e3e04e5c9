/-
  Plain arithmetic and lists of bits, octets and fields: what the walks of layer 1 come to. It imports nothing of the program.
-/
import Derived.RowKit
import Derived.Laws.BitsAllLaws
import Derived.Laws.BytesArg
namespace Go.Proofs.Ytpihicgmfjaghaa.Bm
open Go.RowKit
set_option linter.unusedVariables false
set_option linter.unusedSimpArgs false

/-! ### and, or on int, of numbers that are not below 0 -/
theorem wrap_i64_nat (n : Nat) (h : n < 9223372036854775808) : IntKind.i64.wrap (n : Int) = (n : Int) := by
  simp [IntKind.wrap, IntKind.bits, IntKind.signed]; omega

theorem i64_and_nat (a b : Nat) (ha : a < 9223372036854775808) (hb : b < 9223372036854775808) : bits .and .i64 (a : Int) (b : Int) = ((a &&& b : Nat) : Int) := by
  have e : (BitVec.ofInt 64 (a : Int) &&& BitVec.ofInt 64 (b : Int)).toNat = a &&& b := by
    rw [BitVec.toNat_and, ofInt_u64 a (by omega), ofInt_u64 b (by omega)]
  have hl : a &&& b ≤ a := Nat.and_le_left
  show IntKind.i64.wrap ((BitVec.ofInt 64 (a : Int) &&& BitVec.ofInt 64 (b : Int)).toNat : Int) = _
  rw [e]
  exact wrap_i64_nat _ (by omega)

theorem i64_or_nat (a b : Nat) (ha : a < 9223372036854775808) (hb : b < 9223372036854775808) : bits .or .i64 (a : Int) (b : Int) = ((a ||| b : Nat) : Int) := by
  have e : (BitVec.ofInt 64 (a : Int) ||| BitVec.ofInt 64 (b : Int)).toNat = a ||| b := by
    rw [BitVec.toNat_or, ofInt_u64 a (by omega), ofInt_u64 b (by omega)]
  have hl : a ||| b < 2 ^ 63 := Nat.or_lt_two_pow (by omega) (by omega)
  show IntKind.i64.wrap ((BitVec.ofInt 64 (a : Int) ||| BitVec.ofInt 64 (b : Int)).toNat : Int) = _
  rw [e]
  exact wrap_i64_nat _ (by omega)

theorem wrap64_id (n : Int) (h0 : 0 ≤ n) (h1 : n < 9223372036854775808) : wrap64 n = n := by unfold wrap64; omega

/-! ### powers of two, as far as 2^8 -/
theorem pow_cases (k : Int) (h0 : 0 ≤ k) (h1 : k ≤ 8) : (k = 0 ∧ (2 : Int) ^ k.toNat = 1) ∨ (k = 1 ∧ (2 : Int) ^ k.toNat = 2) ∨ (k = 2 ∧ (2 : Int) ^ k.toNat = 4) ∨ (k = 3 ∧ (2 : Int) ^ k.toNat = 8) ∨
    (k = 4 ∧ (2 : Int) ^ k.toNat = 16) ∨ (k = 5 ∧ (2 : Int) ^ k.toNat = 32) ∨ (k = 6 ∧ (2 : Int) ^ k.toNat = 64) ∨ (k = 7 ∧ (2 : Int) ^ k.toNat = 128) ∨ (k = 8 ∧ (2 : Int) ^ k.toNat = 256) := by
  have h : k = 0 ∨ k = 1 ∨ k = 2 ∨ k = 3 ∨ k = 4 ∨ k = 5 ∨ k = 6 ∨ k = 7 ∨ k = 8 := by omega
  rcases h with rfl | rfl | rfl | rfl | rfl | rfl | rfl | rfl | rfl <;> decide

theorem pow_bd (k : Int) (h0 : 0 ≤ k) (h1 : k ≤ 8) : 1 ≤ (2 : Int) ^ k.toNat ∧ (2 : Int) ^ k.toNat ≤ 256 := by
  rcases pow_cases k h0 h1 with ⟨_, e⟩ | ⟨_, e⟩ | ⟨_, e⟩ | ⟨_, e⟩ | ⟨_, e⟩ | ⟨_, e⟩ | ⟨_, e⟩ | ⟨_, e⟩ | ⟨_, e⟩ <;> rw [e] <;> decide

/-! ### fields -/
/-- P1.3: the number made of 'count' bits of x from the bit 'low' on, as far as there are such. -/
def fld (x low count : Int) : Int := if low < 0 ∨ 7 < low ∨ count < 1 then 0 else x / 2 ^ low.toNat % 2 ^ (min count 8).toNat

theorem and_mask (y m : Int) (hy0 : 0 ≤ y) (hy1 : y ≤ 255) (hm0 : 0 ≤ m) (hm1 : m ≤ 8) :
    bits .and .i64 (wrap64 y) (wrap64 (wrap64 (2 ^ m.toNat) - 1)) = y % 2 ^ m.toNat := by
  have hb := pow_bd m hm0 hm1
  rw [wrap64_id y hy0 (by omega), wrap64_id (2 ^ m.toNat) (by omega) (by omega), wrap64_id (2 ^ m.toNat - 1) (by omega) (by omega)]
  obtain ⟨n, rfl⟩ := Int.eq_ofNat_of_zero_le hy0
  have e : (2 : Int) ^ m.toNat - 1 = ((2 ^ m.toNat - 1 : Nat) : Int) := by
    have : 1 ≤ 2 ^ m.toNat := Nat.one_le_two_pow
    rw [Int.natCast_sub this]; simp
  have hp : (2 ^ m.toNat : Nat) ≤ 256 := by have := hb.2; rw [show (2 : Int) ^ m.toNat = ((2 ^ m.toNat : Nat) : Int) from by simp] at this; omega
  rw [e, i64_and_nat _ _ (by omega) (by omega), Nat.and_two_pow_sub_one_eq_mod]
  simp

theorem div_bd (x low : Int) (hx0 : 0 ≤ x) (hx1 : x ≤ 255) (h0 : 0 ≤ low) (h1 : low ≤ 8) : 0 ≤ x / 2 ^ low.toNat ∧ x / 2 ^ low.toNat ≤ 255 := by
  rcases pow_cases low h0 h1 with ⟨_, e⟩ | ⟨_, e⟩ | ⟨_, e⟩ | ⟨_, e⟩ | ⟨_, e⟩ | ⟨_, e⟩ | ⟨_, e⟩ | ⟨_, e⟩ | ⟨_, e⟩ <;> rw [e] <;> omega

theorem div_lt (x low : Int) (hx0 : 0 ≤ x) (hx1 : x ≤ 255) (h0 : 0 ≤ low) (h1 : low < 8) : x / 2 ^ low.toNat < 2 ^ (8 - low).toNat := by
  rcases pow_cases low h0 (by omega) with ⟨rfl, e⟩ | ⟨rfl, e⟩ | ⟨rfl, e⟩ | ⟨rfl, e⟩ | ⟨rfl, e⟩ | ⟨rfl, e⟩ | ⟨rfl, e⟩ | ⟨rfl, e⟩ | ⟨rfl, e⟩
  all_goals rw [e]
  all_goals first | (exfalso; omega) | skip
  · show x / 1 < 256; omega
  · show x / 2 < 128; omega
  · show x / 4 < 64; omega
  · show x / 8 < 32; omega
  · show x / 16 < 16; omega
  · show x / 32 < 8; omega
  · show x / 64 < 4; omega
  · show x / 128 < 2; omega

theorem pow_mono (a b : Int) (h0 : 0 ≤ a) (h : a ≤ b) : (2 : Int) ^ a.toNat ≤ 2 ^ b.toNat := by
  have h2 : (2 : Nat) ^ a.toNat ≤ 2 ^ b.toNat := Nat.pow_le_pow_right (by decide) (by omega)
  have e1 : (2 : Int) ^ a.toNat = ((2 ^ a.toNat : Nat) : Int) := by simp
  have e2 : (2 : Int) ^ b.toNat = ((2 ^ b.toNat : Nat) : Int) := by simp
  rw [e1, e2]; omega

/-- what the program reckons where count is cut to what is there -/
theorem fld_cut (x low count : Int) (hx0 : 0 ≤ x) (hx1 : x ≤ 255) (h0 : 0 ≤ low) (h1 : low < 8) (h : 8 - low < count) :
    bits .and .i64 (wrap64 (x / 2 ^ low.toNat)) (wrap64 (wrap64 (2 ^ (8 - low).toNat) - 1)) = fld x low count := by
  have hd := div_bd x low hx0 hx1 h0 (by omega)
  have hl := div_lt x low hx0 hx1 h0 h1
  have hp := pow_mono (8 - low) (min count 8) (by omega) (by omega)
  rw [and_mask _ _ hd.1 hd.2 (by omega) (by omega), fld, if_neg (by omega), Int.emod_eq_of_lt hd.1 hl, Int.emod_eq_of_lt hd.1 (by omega)]

theorem fld_whole (x low count : Int) (hx0 : 0 ≤ x) (hx1 : x ≤ 255) (h0 : 0 ≤ low) (h1 : low < 8) (hc : 1 ≤ count) (h : count ≤ 8 - low) :
    bits .and .i64 (wrap64 (x / 2 ^ low.toNat)) (wrap64 (wrap64 (2 ^ count.toNat) - 1)) = fld x low count := by
  have hd := div_bd x low hx0 hx1 h0 (by omega)
  rw [and_mask _ _ hd.1 hd.2 (by omega) (by omega), fld, if_neg (by omega), Int.min_eq_left (by omega)]

theorem fld_none (x low count : Int) (h : low < 0 ∨ 7 < low ∨ count < 1) : fld x low count = 0 := by rw [fld, if_pos h]

end Go.Proofs.Ytpihicgmfjaghaa.Bm
