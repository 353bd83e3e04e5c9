/-
  Plain arithmetic and lists of bits, octets and fields: what the walks of layer 1 come to. It imports nothing of the program.
-/
import Derived.RowKit
import Derived.Laws.BitsAllLaws
import Derived.Laws.BytesArg
namespace Go.Proofs.Ytdnhcpkpajbhoab.Bm
open Go.RowKit
set_option linter.unusedVariables false
set_option linter.unusedSimpArgs false

/-! ### and, or on int, of numbers that are not below 0 -/
theorem wrap_i64_nat (n : Nat) (h : n < 9223372036854775808) : IntKind.i64.wrap (n : Int) = (n : Int) := by
  simp [IntKind.wrap, IntKind.bits, IntKind.signed]; omega

theorem i64_and_nat (a b : Nat) (ha : a < 9223372036854775808) (hb : b < 9223372036854775808) : bits .and .i64 (a : Int) (b : Int) = ((a &&& b : Nat) : Int) := by
  have e : (BitVec.ofInt 64 (a : Int) &&& BitVec.ofInt 64 (b : Int)).toNat = a &&& b := by
    rw [BitVec.toNat_and, ofInt_u64 a (by omega), ofInt_u64 b (by omega)]
  have hl : a &&& b ≤ a := Nat.and_le_left
  show IntKind.i64.wrap ((BitVec.ofInt 64 (a : Int) &&& BitVec.ofInt 64 (b : Int)).toNat : Int) = _
  rw [e]
  exact wrap_i64_nat _ (by omega)

theorem i64_or_nat (a b : Nat) (ha : a < 9223372036854775808) (hb : b < 9223372036854775808) : bits .or .i64 (a : Int) (b : Int) = ((a ||| b : Nat) : Int) := by
  have e : (BitVec.ofInt 64 (a : Int) ||| BitVec.ofInt 64 (b : Int)).toNat = a ||| b := by
    rw [BitVec.toNat_or, ofInt_u64 a (by omega), ofInt_u64 b (by omega)]
  have hl : a ||| b < 2 ^ 63 := Nat.or_lt_two_pow (by omega) (by omega)
  show IntKind.i64.wrap ((BitVec.ofInt 64 (a : Int) ||| BitVec.ofInt 64 (b : Int)).toNat : Int) = _
  rw [e]
  exact wrap_i64_nat _ (by omega)

theorem wrap64_id (n : Int) (h0 : 0 ≤ n) (h1 : n < 9223372036854775808) : wrap64 n = n := by unfold wrap64; omega

/-! ### powers of two, as far as 2^8 -/
theorem pow_cases (k : Int) (h0 : 0 ≤ k) (h1 : k ≤ 8) : (k = 0 ∧ (2 : Int) ^ k.toNat = 1) ∨ (k = 1 ∧ (2 : Int) ^ k.toNat = 2) ∨ (k = 2 ∧ (2 : Int) ^ k.toNat = 4) ∨ (k = 3 ∧ (2 : Int) ^ k.toNat = 8) ∨
    (k = 4 ∧ (2 : Int) ^ k.toNat = 16) ∨ (k = 5 ∧ (2 : Int) ^ k.toNat = 32) ∨ (k = 6 ∧ (2 : Int) ^ k.toNat = 64) ∨ (k = 7 ∧ (2 : Int) ^ k.toNat = 128) ∨ (k = 8 ∧ (2 : Int) ^ k.toNat = 256) := by
  have h : k = 0 ∨ k = 1 ∨ k = 2 ∨ k = 3 ∨ k = 4 ∨ k = 5 ∨ k = 6 ∨ k = 7 ∨ k = 8 := by omega
  rcases h with rfl | rfl | rfl | rfl | rfl | rfl | rfl | rfl | rfl <;> decide

theorem pow_bd (k : Int) (h0 : 0 ≤ k) (h1 : k ≤ 8) : 1 ≤ (2 : Int) ^ k.toNat ∧ (2 : Int) ^ k.toNat ≤ 256 := by
  rcases pow_cases k h0 h1 with ⟨_, e⟩ | ⟨_, e⟩ | ⟨_, e⟩ | ⟨_, e⟩ | ⟨_, e⟩ | ⟨_, e⟩ | ⟨_, e⟩ | ⟨_, e⟩ | ⟨_, e⟩ <;> rw [e] <;> decide

/-! ### fields -/
/-- P1.3: the number made of 'count' bits of x from the bit 'low' on, as far as there are such. -/
def fld (x low count : Int) : Int := if low < 0 ∨ 7 < low ∨ count < 1 then 0 else x / 2 ^ low.toNat % 2 ^ (min count 8).toNat

theorem and_mask (y m : Int) (hy0 : 0 ≤ y) (hy1 : y ≤ 255) (hm0 : 0 ≤ m) (hm1 : m ≤ 8) :
    bits .and .i64 (wrap64 y) (wrap64 (wrap64 (2 ^ m.toNat) - 1)) = y % 2 ^ m.toNat := by
  have hb := pow_bd m hm0 hm1
  rw [wrap64_id y hy0 (by omega), wrap64_id (2 ^ m.toNat) (by omega) (by omega), wrap64_id (2 ^ m.toNat - 1) (by omega) (by omega)]
  obtain ⟨n, rfl⟩ := Int.eq_ofNat_of_zero_le hy0
  have e : (2 : Int) ^ m.toNat - 1 = ((2 ^ m.toNat - 1 : Nat) : Int) := by
    have : 1 ≤ 2 ^ m.toNat := Nat.one_le_two_pow
    rw [Int.natCast_sub this]; simp
  have hp : (2 ^ m.toNat : Nat) ≤ 256 := by have := hb.2; rw [show (2 : Int) ^ m.toNat = ((2 ^ m.toNat : Nat) : Int) from by simp] at this; omega
  rw [e, i64_and_nat _ _ (by omega) (by omega), Nat.and_two_pow_sub_one_eq_mod]
  simp

theorem div_bd (x low : Int) (hx0 : 0 ≤ x) (hx1 : x ≤ 255) (h0 : 0 ≤ low) (h1 : low ≤ 8) : 0 ≤ x / 2 ^ low.toNat ∧ x / 2 ^ low.toNat ≤ 255 := by
  rcases pow_cases low h0 h1 with ⟨_, e⟩ | ⟨_, e⟩ | ⟨_, e⟩ | ⟨_, e⟩ | ⟨_, e⟩ | ⟨_, e⟩ | ⟨_, e⟩ | ⟨_, e⟩ | ⟨_, e⟩ <;> rw [e] <;> omega

theorem div_lt (x low : Int) (hx0 : 0 ≤ x) (hx1 : x ≤ 255) (h0 : 0 ≤ low) (h1 : low < 8) : x / 2 ^ low.toNat < 2 ^ (8 - low).toNat := by
  rcases pow_cases low h0 (by omega) with ⟨rfl, e⟩ | ⟨rfl, e⟩ | ⟨rfl, e⟩ | ⟨rfl, e⟩ | ⟨rfl, e⟩ | ⟨rfl, e⟩ | ⟨rfl, e⟩ | ⟨rfl, e⟩ | ⟨rfl, e⟩
  all_goals rw [e]
  all_goals first | (exfalso; omega) | skip
  · show x / 1 < 256; omega
  · show x / 2 < 128; omega
  · show x / 4 < 64; omega
  · show x / 8 < 32; omega
  · show x / 16 < 16; omega
  · show x / 32 < 8; omega
  · show x / 64 < 4; omega
  · show x / 128 < 2; omega

theorem pow_mono (a b : Int) (h0 : 0 ≤ a) (h : a ≤ b) : (2 : Int) ^ a.toNat ≤ 2 ^ b.toNat := by
  have h2 : (2 : Nat) ^ a.toNat ≤ 2 ^ b.toNat := Nat.pow_le_pow_right (by decide) (by omega)
  have e1 : (2 : Int) ^ a.toNat = ((2 ^ a.toNat : Nat) : Int) := by simp
  have e2 : (2 : Int) ^ b.toNat = ((2 ^ b.toNat : Nat) : Int) := by simp
  rw [e1, e2]; omega

/-- what the program reckons where count is cut to what is there -/
theorem fld_cut (x low count : Int) (hx0 : 0 ≤ x) (hx1 : x ≤ 255) (h0 : 0 ≤ low) (h1 : low < 8) (h : 8 - low < count) :
    bits .and .i64 (wrap64 (x / 2 ^ low.toNat)) (wrap64 (wrap64 (2 ^ (8 - low).toNat) - 1)) = fld x low count := by
  have hd := div_bd x low hx0 hx1 h0 (by omega)
  have hl := div_lt x low hx0 hx1 h0 h1
  have hp := pow_mono (8 - low) (min count 8) (by omega) (by omega)
  rw [and_mask _ _ hd.1 hd.2 (by omega) (by omega), fld, if_neg (by omega), Int.emod_eq_of_lt hd.1 hl, Int.emod_eq_of_lt hd.1 (by omega)]

theorem fld_whole (x low count : Int) (hx0 : 0 ≤ x) (hx1 : x ≤ 255) (h0 : 0 ≤ low) (h1 : low < 8) (hc : 1 ≤ count) (h : count ≤ 8 - low) :
    bits .and .i64 (wrap64 (x / 2 ^ low.toNat)) (wrap64 (wrap64 (2 ^ count.toNat) - 1)) = fld x low count := by
  have hd := div_bd x low hx0 hx1 h0 (by omega)
  rw [and_mask _ _ hd.1 hd.2 (by omega) (by omega), fld, if_neg (by omega), Int.min_eq_left (by omega)]

theorem fld_none (x low count : Int) (h : low < 0 ∨ 7 < low ∨ count < 1) : fld x low count = 0 := by rw [fld, if_pos h]

/-! ### octets as bits -/
/-- the numbers of a text's bytes -/
def nums (s : ByteArray) : List Int := s.data.toList.map fun c => (c.toNat : Int)

/-- the eight bits of an octet, the lowest first, as the bytes 0 and 1 -/
def bitsN (n : Int) : List Int := [48 + n % 2, 48 + n / 2 % 2, 48 + n / 4 % 2, 48 + n / 8 % 2, 48 + n / 16 % 2, 48 + n / 32 % 2, 48 + n / 64 % 2, 48 + n / 128 % 2]

def ofN (l : List Int) : List Int := l.flatMap bitsN

theorem nums_length (s : ByteArray) : (nums s).length = s.size := by
  rw [nums, List.length_map, Array.length_toList]; rfl
theorem nums_get (s : ByteArray) (i : Nat) (h : i < s.size) : (nums s)[i]'(by rw [nums_length]; exact h) = (s[i].toNat : Int) := by
  simp [nums]; rfl
theorem nums_range (s : ByteArray) : ∀ n ∈ nums s, 0 ≤ n ∧ n ≤ 255 := by
  intro n hn
  simp only [nums, List.mem_map] at hn
  obtain ⟨c, _, rfl⟩ := hn
  have := c.toNat_lt
  omega
theorem nums_take (s : ByteArray) (i : Nat) (h : i < s.size) : (nums s).take (i + 1) = (nums s).take i ++ [(s[i].toNat : Int)] := by
  rw [List.take_succ_eq_append_getElem (by rw [nums_length]; exact h), nums_get s i h]

theorem bitsN_length (n : Int) : (bitsN n).length = 8 := rfl
theorem ofN_length (l : List Int) : (ofN l).length = 8 * l.length := by
  induction l with
  | nil => rfl
  | cons a l ih => simp only [ofN, List.flatMap_cons, List.length_append, bitsN_length, List.length_cons] at *; omega
theorem ofN_append (a b : List Int) : ofN (a ++ b) = ofN a ++ ofN b := by simp [ofN]
theorem ofN_one (n : Int) : ofN [n] = bitsN n := by simp [ofN]
theorem ofN_take (s : ByteArray) (i : Nat) (h : i < s.size) : ofN ((nums s).take (i + 1)) = ofN ((nums s).take i) ++ bitsN (s[i].toNat : Int) := by
  rw [nums_take s i h, ofN_append, ofN_one]

/-- the k-th bit, as a byte -/
theorem bitsN_take (n : Int) (k : Nat) (h : k < 8) : (bitsN n).take (k + 1) = (bitsN n).take k ++ [48 + n / 2 ^ k % 2] := by
  have hk : k = 0 ∨ k = 1 ∨ k = 2 ∨ k = 3 ∨ k = 4 ∨ k = 5 ∨ k = 6 ∨ k = 7 := by omega
  rcases hk with rfl | rfl | rfl | rfl | rfl | rfl | rfl | rfl <;> simp [bitsN]

/-- what the program reckons for one bit -/
theorem bit_code (n : Int) (k : Nat) (h0 : 0 ≤ n) (h1 : n ≤ 255) : (48 + bits .and .u8 (n / 2 ^ k) 1) % 256 = 48 + n / 2 ^ k % 2 := by
  have hp : (0 : Int) < 2 ^ k := Int.pow_pos (by decide)
  have ha : 0 ≤ n / 2 ^ k := Int.ediv_nonneg h0 (by omega)
  have hb : n / 2 ^ k ≤ n := Int.ediv_le_self _ h0
  rw [u8_and _ _ ha (by omega) (by decide) (by decide)]
  generalize n / 2 ^ k = y at *
  obtain ⟨m, rfl⟩ := Int.eq_ofNat_of_zero_le ha
  rw [Int.toNat_natCast, show (1 : Int).toNat = 1 from rfl, nat_mask1]
  omega

theorem half (n : Int) (k : Nat) : n / 2 ^ k / 2 = n / 2 ^ (k + 1) := by
  rw [Int.pow_succ, Int.ediv_ediv_of_nonneg (Int.le_of_lt (Int.pow_pos (by decide)))]
theorem half_bd (n : Int) (k : Nat) (h0 : 0 ≤ n) (h1 : n ≤ 255) : 0 ≤ n / 2 ^ k ∧ n / 2 ^ k ≤ 255 := by
  have hp : (0 : Int) < 2 ^ k := Int.pow_pos (by decide)
  exact ⟨Int.ediv_nonneg h0 (by omega), by have := Int.ediv_le_self (2 ^ k) h0; omega⟩

/-! ### bits, and the octets that they make -/
def isB (n : Int) : Bool := n == 48 || n == 49
def goodN (l : List Int) : Bool := l.all isB

theorem isB_iff (n : Int) : isB n = true ↔ n = 48 ∨ n = 49 := by simp [isB]

theorem good_of (s : ByteArray) (h : ∀ j, (hj : j < s.size) → isB (s[j].toNat : Int) = true) : goodN (nums s) = true := by
  rw [goodN, List.all_eq_true]
  intro n hn
  obtain ⟨j, hj, rfl⟩ := List.getElem_of_mem hn
  have hj' : j < s.size := by rw [nums_length] at hj; exact hj
  rw [nums_get s j hj']
  exact h j hj'
theorem bad_of (s : ByteArray) (j : Nat) (hj : j < s.size) (h : isB (s[j].toNat : Int) = false) : goodN (nums s) = false := by
  rw [goodN, List.all_eq_false]
  refine ⟨(s[j].toNat : Int), ?_, by rw [h]; decide⟩
  rw [← nums_get s j hj]
  exact List.getElem_mem _
theorem good_get (s : ByteArray) (h : goodN (nums s) = true) (j : Nat) (hj : j < s.size) : (s[j].toNat : Int) = 48 ∨ (s[j].toNat : Int) = 49 := by
  rw [goodN, List.all_eq_true] at h
  have := h (s[j].toNat : Int) (by rw [← nums_get s j hj]; exact List.getElem_mem _)
  exact (isB_iff _).1 this

/-- the k-th bit of the i-th octet -/
def bitAt (l : List Int) (i k : Nat) : Int := l.getD (i * 8 + k) 48 - 48
/-- the number that the first k bits of the i-th octet make -/
def part (l : List Int) (i : Nat) : Nat → Int
  | 0 => 0
  | k + 1 => part l i k + bitAt l i k * 2 ^ k
def oct (l : List Int) (i : Nat) : Int := part l i 8
def octs (l : List Int) : List Int := (List.range (l.length / 8)).map (oct l)

theorem bitAt_s (s : ByteArray) (i k : Nat) (h : i * 8 + k < s.size) : bitAt (nums s) i k = (s[i * 8 + k].toNat : Int) - 48 := by
  rw [bitAt, List.getD, List.getElem?_eq_getElem (by rw [nums_length]; exact h), nums_get s _ h]; rfl

theorem part_bd (l : List Int) (i k : Nat) (h : ∀ j, j < k → 0 ≤ bitAt l i j ∧ bitAt l i j ≤ 1) : 0 ≤ part l i k ∧ part l i k < 2 ^ k := by
  induction k with
  | zero => simp [part]
  | succ k ih =>
    have h1 := ih (fun j hj => h j (by omega))
    have h2 := h k (by omega)
    have hp : (0 : Int) < 2 ^ k := Int.pow_pos (by decide)
    rw [part, Int.pow_succ]
    have h3 : bitAt l i k = 0 ∨ bitAt l i k = 1 := by omega
    rcases h3 with h3 | h3 <;> rw [h3] <;> omega

theorem octs_length (l : List Int) : (octs l).length = l.length / 8 := by simp [octs]
theorem octs_take (l : List Int) (i : Nat) (h : i < l.length / 8) : (octs l).take (i + 1) = (octs l).take i ++ [oct l i] := by
  rw [List.take_succ_eq_append_getElem (by rw [octs_length]; exact h)]
  simp [octs]

/-- one bit more, by or -/
theorem or_bit (p x : Int) (k : Nat) (hk : k < 8) (hp0 : 0 ≤ p) (hp1 : p < 2 ^ k) (hx : x = 0 ∨ x = 1) : bits .or .u8 p ((x * 2 ^ k) % 256) = p + x * 2 ^ k := by
  obtain ⟨q, rfl⟩ := Int.eq_ofNat_of_zero_le hp0
  have e2 : (2 : Int) ^ k = ((2 ^ k : Nat) : Int) := by simp
  have hle : (2 : Nat) ^ k ≤ 128 := Nat.le_trans (Nat.pow_le_pow_right (by decide) (show k ≤ 7 by omega)) (by decide)
  rw [e2] at hp1 ⊢
  have hq : q < 2 ^ k := by omega
  rcases hx with rfl | rfl
  · rw [Int.zero_mul, show (0 : Int) % 256 = ((0 : Nat) : Int) from rfl, u8_or_nat q 0 (by omega) (by decide)]
    simp
  · rw [Int.one_mul, Int.emod_eq_of_lt (by omega) (by omega), u8_or_nat q (2 ^ k) (by omega) (by omega), Nat.or_comm, nat_join k (2 ^ k) q (Nat.mod_self _) hq]
    omega

/-- a row of octets on its way: i are done, the next one is at p -/
def rowAt (l : List Int) (n i : Nat) (p : Int) : List Int := (octs l).take i ++ p :: List.replicate (n - i - 1) 0
theorem rowAt_get (l : List Int) (n i : Nat) (p : Int) (h : i < n) (hn : n = l.length / 8) : (rowAt l n i p)[i]? = some p := by
  have hl : ((octs l).take i).length = i := by rw [List.length_take, octs_length]; omega
  rw [rowAt, List.getElem?_append_right (by omega), hl, Nat.sub_self]; rfl
theorem rowAt_set (l : List Int) (n i : Nat) (p q : Int) (h : i < n) (hn : n = l.length / 8) : (rowAt l n i p).set i q = rowAt l n i q := by
  have hl : ((octs l).take i).length = i := by rw [List.length_take, octs_length]; omega
  rw [rowAt, List.set_append_right _ _ (by omega), hl, Nat.sub_self]; rfl
theorem rowAt_next (l : List Int) (n i : Nat) (h : i + 1 < n) (hn : n = l.length / 8) : rowAt l n i (oct l i) = rowAt l n (i + 1) 0 := by
  rw [rowAt, rowAt, octs_take l i (by omega), List.append_assoc, show n - i - 1 = (n - (i + 1) - 1) + 1 from by omega, List.replicate_succ]; rfl
theorem rowAt_last (l : List Int) (n i : Nat) (h : i + 1 = n) (hn : n = l.length / 8) : rowAt l n i (oct l i) = octs l := by
  have e : (octs l).take (i + 1) = octs l := List.take_of_length_le (by rw [octs_length]; omega)
  rw [octs_take l i (by omega)] at e
  rw [rowAt, show n - i - 1 = 0 from by omega]
  exact e
theorem rowAt_first (l : List Int) (n : Nat) (h : 0 < n) : rowAt l n 0 0 = List.replicate n 0 := by
  rw [rowAt, show n = (n - 1) + 1 from by omega, List.replicate_succ]; simp

/-! ### the document's way: from the highest bit down -/
theorem down_bd (l : List Int) (i k : Nat) (q : Int) (h : ∀ j, j < 8 → 0 ≤ bitAt l i j ∧ bitAt l i j ≤ 1) (hk : k ≤ 8) (hq : 0 ≤ q) (e : q * 2 ^ k + part l i k = oct l i) : q ≤ 255 := by
  have h1 := (part_bd l i k (fun j hj => h j (by omega))).1
  have h2 := (part_bd l i 8 h).2
  have hp : (1 : Int) ≤ 2 ^ k := by have : (0 : Int) < 2 ^ k := Int.pow_pos (by decide); omega
  have h3 : q * 1 ≤ q * 2 ^ k := Int.mul_le_mul_of_nonneg_left hp hq
  have h4 : oct l i < 256 := h2
  omega
theorem down_step (l : List Int) (i k : Nat) (q : Int) (e : q * 2 ^ (k + 1) + part l i (k + 1) = oct l i) : (2 * q + bitAt l i k) * 2 ^ k + part l i k = oct l i := by
  rw [← e, part, Int.pow_succ, Int.add_mul]
  have : q * (2 ^ k * 2) = 2 * q * 2 ^ k := by rw [Int.mul_comm 2 q, Int.mul_assoc, Int.mul_comm (2 ^ k) 2]
  omega
theorem down_last (l : List Int) (i : Nat) (q : Int) (e : q * 2 ^ 0 + part l i 0 = oct l i) : q = oct l i := by
  rw [part] at e; simpa using e

/-! ### bits turned -/
/-- P1.2: the byte at the place p turned, if it is a bit -/
def flip1 (l : List Int) (p : Int) : List Int := if 0 ≤ p ∧ p < (l.length : Int) ∧ isB (l.getD p.toNat 0) = true then l.set p.toNat (97 - l.getD p.toNat 0) else l
def flips (l : List Int) (ps : List Int) : List Int := ps.foldl flip1 l

theorem flip1_length (l : List Int) (p : Int) : (flip1 l p).length = l.length := by rw [flip1]; split <;> simp
theorem flips_length (ps : List Int) : ∀ l : List Int, (flips l ps).length = l.length := by
  induction ps with
  | nil => intro l; rfl
  | cons p ps ih => intro l; rw [flips, List.foldl_cons]; exact (ih _).trans (flip1_length l p)
theorem flips_take (l ps : List Int) (i : Nat) (h : i < ps.length) : flips l (ps.take (i + 1)) = flip1 (flips l (ps.take i)) (ps.getD i 0) := by
  rw [List.take_succ_eq_append_getElem h, flips, List.foldl_append, List.getD, List.getElem?_eq_getElem h]; rfl
theorem flip1_out (l : List Int) (p : Int) (h : p < 0 ∨ (l.length : Int) ≤ p) : flip1 l p = l := by rw [flip1, if_neg (by omega)]
theorem flip1_not (l : List Int) (p : Int) (h : isB (l.getD p.toNat 0) = false) : flip1 l p = l := by rw [flip1, if_neg (by rw [h]; simp)]
theorem flip1_in (l : List Int) (n : Nat) (hn : n < l.length) (h : isB (l.getD n 0) = true) : flip1 l (n : Int) = l.set n (97 - l.getD n 0) := by
  rw [flip1, if_pos ⟨by omega, by omega, h⟩]; rfl
theorem xor_one (x : Int) (h : isB x = true) : bits .xor .u8 x 1 = 97 - x := by
  rcases (isB_iff x).1 h with rfl | rfl <;> decide

/-! ### there and back -/
theorem nums_str (xs : List Int) (h : ∀ n ∈ xs, 0 ≤ n ∧ n ≤ 255) : nums (strOfNums xs) = xs := by
  rw [nums, strOfNums_data, List.map_map]
  conv => rhs; rw [← List.map_id xs]
  apply List.map_congr_left
  intro n hn
  have := h n hn
  simp only [Function.comp, id]
  rw [UInt8.toNat_ofNat_of_lt' (by show n.toNat < 256; omega)]
  omega
theorem str_nums (s : ByteArray) : strOfNums (nums s) = s := by
  have e : (strOfNums (nums s)).data = s.data := by
    show ((nums s).map fun n => UInt8.ofNat n.toNat).toArray = s.data
    rw [nums, List.map_map]
    have : (s.data.toList.map ((fun n : Int => UInt8.ofNat n.toNat) ∘ fun c : UInt8 => (c.toNat : Int))) = s.data.toList := by
      conv => rhs; rw [← List.map_id s.data.toList]
      apply List.map_congr_left
      intro c _
      simp
    rw [this]
  exact congrArg ByteArray.mk e
theorem bitsN_01 (n : Int) : ∀ x ∈ bitsN n, x = 48 ∨ x = 49 := by
  intro x hx
  simp only [bitsN, List.mem_cons, List.not_mem_nil, or_false] at hx
  rcases hx with h | h | h | h | h | h | h | h <;> omega
theorem ofN_01 (l : List Int) : ∀ x ∈ ofN l, x = 48 ∨ x = 49 := by
  intro x hx
  rw [ofN, List.mem_flatMap] at hx
  obtain ⟨n, _, h⟩ := hx
  exact bitsN_01 n x h
theorem ofN_range (l : List Int) : ∀ x ∈ ofN l, 0 ≤ x ∧ x ≤ 255 := fun x hx => by rcases ofN_01 l x hx with h | h <;> omega
theorem ofN_good (l : List Int) : goodN (ofN l) = true := by
  rw [goodN, List.all_eq_true]
  intro x hx
  exact (isB_iff x).2 (ofN_01 l x hx)

theorem part_congr (l m : List Int) (i j : Nat) (h : ∀ k, k < 8 → bitAt l i k = bitAt m j k) : ∀ k, k ≤ 8 → part l i k = part m j k := by
  intro k
  induction k with
  | zero => intro _; rfl
  | succ k ih => intro hk; rw [part, part, ih (by omega), h k (by omega)]
theorem oct_next (a : Int) (m : List Int) (i : Nat) : oct (bitsN a ++ m) (i + 1) = oct m i := by
  refine part_congr _ _ _ _ (fun k hk => ?_) 8 (Nat.le_refl _)
  rw [bitAt, bitAt, List.getD, List.getD, List.getElem?_append_right (by rw [bitsN_length]; omega), bitsN_length, show (i + 1) * 8 + k - 8 = i * 8 + k from by omega]
theorem oct_first (a : Int) (m : List Int) (h0 : 0 ≤ a) (h1 : a ≤ 255) : oct (bitsN a ++ m) 0 = a := by
  simp only [oct, part, bitAt, bitsN, List.getD, List.cons_append, List.nil_append]
  simp
  omega
theorem octs_ofN (l : List Int) (h : ∀ n ∈ l, 0 ≤ n ∧ n ≤ 255) : octs (ofN l) = l := by
  induction l with
  | nil => rfl
  | cons a l ih =>
    have ha := h a (by simp)
    have e : ofN (a :: l) = bitsN a ++ ofN l := by simp [ofN]
    have hl : (bitsN a ++ ofN l).length / 8 = (ofN l).length / 8 + 1 := by rw [List.length_append, bitsN_length]; omega
    rw [e, octs, hl, List.range_succ_eq_map, List.map_cons, oct_first a _ ha.1 ha.2, List.map_map]
    have : List.map (oct (bitsN a ++ ofN l) ∘ Nat.succ) (List.range ((ofN l).length / 8)) = octs (ofN l) := by
      rw [octs]
      apply List.map_congr_left
      intro i _
      exact oct_next a (ofN l) i
    rw [this, ih (fun n hn => h n (by simp [hn]))]

theorem flip1_get (l : List Int) (p : Int) (j : Nat) : (flip1 l p)[j]? = if (j : Int) = p then (l[j]?).map (fun x => if isB x = true then 97 - x else x) else l[j]? := by
  by_cases hj : j < l.length
  · rw [flip1]
    split
    · rename_i h
      obtain ⟨h0, h1, hb⟩ := h
      by_cases e : (j : Int) = p
      · have ej : p.toNat = j := by omega
        rw [if_pos e, ej, List.getElem?_set_self hj, List.getElem?_eq_getElem hj]
        rw [ej, List.getD, List.getElem?_eq_getElem hj] at hb
        simp only [Option.getD_some] at hb
        simp [List.getD, List.getElem?_eq_getElem hj, hb]
      · rw [if_neg e, List.getElem?_set_ne (by omega)]
    · rename_i h
      by_cases e : (j : Int) = p
      · have ej : p.toNat = j := by omega
        rw [if_pos e, List.getElem?_eq_getElem hj]
        have hb : ¬ isB (l[j]) = true := by
          intro hb
          apply h
          refine ⟨by omega, by omega, ?_⟩
          rw [ej, List.getD, List.getElem?_eq_getElem hj]; exact hb
        simp [hb]
      · rw [if_neg e]
  · have h1 : (flip1 l p)[j]? = none := List.getElem?_eq_none (by rw [flip1_length]; omega)
    have h2 : l[j]? = none := List.getElem?_eq_none (by omega)
    rw [h1, h2]; split <;> rfl

theorem turn_turn (x : Int) : (if isB (if isB x = true then 97 - x else x) = true then 97 - (if isB x = true then 97 - x else x) else (if isB x = true then 97 - x else x)) = x := by
  by_cases h : isB x = true
  · rcases (isB_iff x).1 h with rfl | rfl <;> decide
  · simp [h]
theorem flip1_twice (l : List Int) (p : Int) : flip1 (flip1 l p) p = l := by
  apply List.ext_getElem?
  intro j
  rw [flip1_get]
  split
  · rename_i e
    rw [flip1_get, if_pos e]
    cases l[j]? with
    | none => rfl
    | some x => simp only [Option.map_some]; rw [turn_turn]
  · rename_i e
    rw [flip1_get, if_neg e]
theorem flip1_comm (l : List Int) (p q : Int) : flip1 (flip1 l p) q = flip1 (flip1 l q) p := by
  by_cases e : p = q
  · rw [e]
  · apply List.ext_getElem?
    intro j
    rw [flip1_get, flip1_get, flip1_get, flip1_get]
    by_cases e1 : (j : Int) = p
    · have e2 : ¬ (j : Int) = q := by omega
      simp [e1, e]
    · simp [e1]
theorem flips_flip1 (ps : List Int) : ∀ (l : List Int) (p : Int), flips (flip1 l p) ps = flip1 (flips l ps) p := by
  induction ps with
  | nil => intro l p; rfl
  | cons q ps ih =>
    intro l p
    show flips (flip1 (flip1 l p) q) ps = flip1 (flips (flip1 l q) ps) p
    rw [flip1_comm, ih]
theorem flips_twice (ps : List Int) : ∀ l : List Int, flips (flips l ps) ps = l := by
  induction ps with
  | nil => intro l; rfl
  | cons p ps ih =>
    intro l
    show flips (flip1 (flips (flip1 l p) ps) p) ps = l
    rw [← flips_flip1, flip1_twice, ih]
theorem flip1_range (l : List Int) (p : Int) (h : ∀ n ∈ l, 0 ≤ n ∧ n ≤ 255) : ∀ n ∈ flip1 l p, 0 ≤ n ∧ n ≤ 255 := by
  intro n hn
  rw [flip1] at hn
  split at hn
  · rename_i hc
    rcases List.mem_or_eq_of_mem_set hn with h1 | h1
    · exact h n h1
    · rcases (isB_iff _).1 hc.2.2 with h2 | h2 <;> omega
  · exact h n hn
theorem flips_range (ps : List Int) : ∀ l : List Int, (∀ n ∈ l, 0 ≤ n ∧ n ≤ 255) → ∀ n ∈ flips l ps, 0 ≤ n ∧ n ≤ 255 := by
  induction ps with
  | nil => intro l h; exact h
  | cons p ps ih => intro l h; exact ih (flip1 l p) (flip1_range l p h)

end Go.Proofs.Ytdnhcpkpajbhoab.Bm
