/-
  Plain lists: octets out of bits some of which were turned, and the register behind them. It imports nothing of the program.
-/
import Derived.Test.YtdcohbdndkphnaaDoorMath
import Derived.Test.YtdcohbdndkphnaaDoorFcsMath
namespace Go.Proofs.YtdcohbdndkphnaaDoor.Fm
open Go.RowKit
set_option linter.unusedVariables false
set_option linter.unusedSimpArgs false

/-! ### bits that make whole octets are the bits of those -/
theorem eight_bits (x0 x1 x2 x3 x4 x5 x6 x7 : Int) (h0 : 48 ≤ x0 ∧ x0 ≤ 49) (h1 : 48 ≤ x1 ∧ x1 ≤ 49) (h2 : 48 ≤ x2 ∧ x2 ≤ 49) (h3 : 48 ≤ x3 ∧ x3 ≤ 49) (h4 : 48 ≤ x4 ∧ x4 ≤ 49) (h5 : 48 ≤ x5 ∧ x5 ≤ 49) (h6 : 48 ≤ x6 ∧ x6 ≤ 49) (h7 : 48 ≤ x7 ∧ x7 ≤ 49) :
    ∃ a : Int, 0 ≤ a ∧ a ≤ 255 ∧ [x0, x1, x2, x3, x4, x5, x6, x7] = Bm.bitsN a := by
  refine ⟨(x0 - 48) + 2 * (x1 - 48) + 4 * (x2 - 48) + 8 * (x3 - 48) + 16 * (x4 - 48) + 32 * (x5 - 48) + 64 * (x6 - 48) + 128 * (x7 - 48), by omega, by omega, ?_⟩
  have e : ∀ a b c d e f g h a' b' c' d' e' f' g' h' : Int, a = a' → b = b' → c = c' → d = d' → e = e' → f = f' → g = g' → h = h' → [a, b, c, d, e, f, g, h] = [a', b', c', d', e', f', g', h'] := by
    intro _ _ _ _ _ _ _ _ _ _ _ _ _ _ _ _ h1 h2 h3 h4 h5 h6 h7 h8
    rw [h1, h2, h3, h4, h5, h6, h7, h8]
  refine e _ _ _ _ _ _ _ _ _ _ _ _ _ _ _ _ ?_ ?_ ?_ ?_ ?_ ?_ ?_ ?_ <;> omega
theorem good_of_octets (n : Nat) : ∀ F : List Int, F.length = 8 * n → (∀ x ∈ F, x = 48 ∨ x = 49) → ∃ l : List Int, (∀ a ∈ l, 0 ≤ a ∧ a ≤ 255) ∧ F = Bm.ofN l := by
  induction n with
  | zero => intro F h _; exact ⟨[], by simp, List.eq_nil_of_length_eq_zero (by omega)⟩
  | succ n ih =>
    intro F h hg
    match F, h, hg with
    | x0 :: x1 :: x2 :: x3 :: x4 :: x5 :: x6 :: x7 :: F, h, hg =>
      have hb : ∀ x ∈ x0 :: x1 :: x2 :: x3 :: x4 :: x5 :: x6 :: x7 :: F, 48 ≤ x ∧ x ≤ 49 := fun x hx => by rcases hg x hx with h | h <;> omega
      obtain ⟨a, ha0, ha1, ha⟩ := eight_bits x0 x1 x2 x3 x4 x5 x6 x7 (hb _ (by simp)) (hb _ (by simp)) (hb _ (by simp)) (hb _ (by simp)) (hb _ (by simp)) (hb _ (by simp)) (hb _ (by simp)) (hb _ (by simp))
      obtain ⟨l, hl, e⟩ := ih F (by simp at h; omega) (fun x hx => hg x (by simp [hx]))
      refine ⟨a :: l, fun y hy => ?_, ?_⟩
      · rcases List.mem_cons.1 hy with rfl | hy
        · exact ⟨ha0, ha1⟩
        · exact hl y hy
      · have e2 : Bm.ofN (a :: l) = Bm.bitsN a ++ Bm.ofN l := by simp [Bm.ofN]
        rw [e2, ← ha, ← e]; rfl

/-! ### the register behind octets, by their bits as bytes -/
theorem bit1_par (r x y : Nat) (h : x % 2 = y % 2) : bit1 r x = bit1 r y := by
  rw [bit1, bit1]; congr 1; unfold mask; rw [show (r + x) % 2 = (r + y) % 2 from by omega]
theorem run_shift (l : List Nat) : ∀ r, run r (l.map (48 + ·)) = run r l := by
  induction l with
  | nil => intro r; rfl
  | cons x l ih =>
    intro r
    show run (bit1 r (48 + x)) (l.map (48 + ·)) = run (bit1 r x) l
    rw [bit1_par r (48 + x) x (by omega), ih]
theorem bitsN_low (c : Nat) : (Bm.bitsN (c : Int)).map Int.toNat = (low c 8).map (48 + ·) := by
  simp only [Bm.bitsN, low, List.map_cons, List.map_nil]
  have e : ∀ a b c d e f g h a' b' c' d' e' f' g' h' : Nat, a = a' → b = b' → c = c' → d = d' → e = e' → f = f' → g = g' → h = h' → [a, b, c, d, e, f, g, h] = [a', b', c', d', e', f', g', h'] := by
    intro _ _ _ _ _ _ _ _ _ _ _ _ _ _ _ _ h1 h2 h3 h4 h5 h6 h7 h8
    rw [h1, h2, h3, h4, h5, h6, h7, h8]
  refine e _ _ _ _ _ _ _ _ _ _ _ _ _ _ _ _ ?_ ?_ ?_ ?_ ?_ ?_ ?_ ?_ <;> omega
theorem nums_octN (s : ByteArray) : Bm.nums s = (octN s).map fun n : Nat => (n : Int) := by
  rw [Bm.nums, octN, List.map_map]; rfl
theorem reg_bits_list (l : List Nat) : ∀ r, reg r l = run r ((Bm.ofN (l.map fun n : Nat => (n : Int))).map Int.toNat) := by
  induction l with
  | nil => intro r; rfl
  | cons c l ih =>
    intro r
    have e : Bm.ofN ((c :: l).map fun n : Nat => (n : Int)) = Bm.bitsN (c : Int) ++ Bm.ofN (l.map fun n : Nat => (n : Int)) := by simp [Bm.ofN]
    rw [e, List.map_append, run_append, bitsN_low, run_shift]
    exact ih (step r c)
theorem reg_bits (s : ByteArray) (r : Nat) : reg r (octN s) = run r ((Bm.ofN (Bm.nums s)).map Int.toNat) := by
  rw [nums_octN, reg_bits_list]

/-! ### bits turned -/
theorem flip1_01 (l : List Int) (p : Int) (h : ∀ x ∈ l, x = 48 ∨ x = 49) : ∀ x ∈ Bm.flip1 l p, x = 48 ∨ x = 49 := by
  intro n hn
  rw [Bm.flip1] at hn
  split at hn
  · rename_i hc
    rcases List.mem_or_eq_of_mem_set hn with h1 | h1
    · exact h n h1
    · rcases (Bm.isB_iff _).1 hc.2.2 with h2 | h2 <;> omega
  · exact h n hn
theorem flips_01 (ps : List Int) : ∀ l : List Int, (∀ x ∈ l, x = 48 ∨ x = 49) → ∀ x ∈ Bm.flips l ps, x = 48 ∨ x = 49 := by
  induction ps with
  | nil => intro l h; exact h
  | cons p ps ih => intro l h; exact ih (Bm.flip1 l p) (flip1_01 l p h)
/-- a bit is turned as often as its place stands there -/
theorem flips_par (ps : List Int) : ∀ (l : List Int), (∀ x ∈ l, x = 48 ∨ x = 49) → ∀ j, j < l.length → ((Bm.flips l ps).getD j 0).toNat % 2 = ((l.getD j 0).toNat + ps.count (j : Int)) % 2 := by
  induction ps with
  | nil => intro l _ j _; simp [Bm.flips]
  | cons p ps ih =>
    intro l hl j hj
    have hl1 := Bm.flip1_length l p
    have h1 := ih (Bm.flip1 l p) (flip1_01 l p hl) j (by omega)
    have e : Bm.flips l (p :: ps) = Bm.flips (Bm.flip1 l p) ps := rfl
    have hg := Bm.flip1_get l p j
    have hx := hl _ (List.getElem_mem hj)
    rw [e, h1, List.count_cons]
    rw [List.getElem?_eq_getElem hj] at hg
    by_cases hp : (j : Int) = p
    · rw [if_pos hp] at hg
      have hb : Bm.isB l[j] = true := (Bm.isB_iff _).2 hx
      simp only [Option.map_some, hb, if_true] at hg
      rw [List.getD, hg, List.getD, List.getElem?_eq_getElem hj, hp]
      simp only [Option.getD_some, beq_self_eq_true, if_true]
      rcases hx with h | h <;> rw [h] <;> omega
    · rw [if_neg hp] at hg
      have hne : (p == (j : Int)) = false := by simp; omega
      rw [List.getD, hg, List.getD, List.getElem?_eq_getElem hj, hne]
      simp

/-- what the turned bits make: whole octets, as many as before, with another register behind them -/
theorem turned (T : ByteArray) (ps : List Int) (E : List Nat) (hE : E.length = 8 * T.size) (hp : ∀ j, j < 8 * T.size → (E.getD j 0) % 2 = ps.count (j : Int) % 2) :
    ∃ U : ByteArray, U.size = T.size ∧ Bm.flips (Bm.ofN (Bm.nums T)) ps = Bm.ofN (Bm.nums U) ∧ reg 65535 (octN U) = reg 65535 (octN T) ^^^ run 0 E := by
  have hlen : (Bm.ofN (Bm.nums T)).length = 8 * T.size := by rw [Bm.ofN_length, Bm.nums_length]
  have hflen : (Bm.flips (Bm.ofN (Bm.nums T)) ps).length = 8 * T.size := by rw [Bm.flips_length, hlen]
  obtain ⟨l, hl, e⟩ := good_of_octets T.size _ hflen (flips_01 ps _ (Bm.ofN_01 _))
  have hll : l.length = T.size := by rw [e, Bm.ofN_length] at hflen; omega
  have hn : Bm.nums (strOfNums l) = l := Bm.nums_str l hl
  refine ⟨strOfNums l, by rw [strOfNums_size, hll], by rw [hn]; exact e, ?_⟩
  rw [reg_bits, reg_bits, hn, ← e]
  have h := run_xor ((Bm.ofN (Bm.nums T)).map Int.toNat) E ((Bm.flips (Bm.ofN (Bm.nums T)) ps).map Int.toNat) 65535 0 (by simp [hlen, hflen]) (by simp [hE, hflen]) (fun j => ?_)
  · rw [Nat.xor_zero] at h; exact h
  · by_cases hj : j < 8 * T.size
    · have hq := flips_par ps _ (Bm.ofN_01 (Bm.nums T)) j (by omega)
      have hg : ∀ F : List Int, j < F.length → (F.map Int.toNat).getD j 0 = (F.getD j 0).toNat := fun F hF => by
        rw [List.getD, List.getElem?_map, List.getElem?_eq_getElem hF, List.getD, List.getElem?_eq_getElem hF]; rfl
      have := hp j hj
      rw [hg _ (by omega), hg _ (by omega), hq]
      omega
    · have hg : ∀ F : List Nat, F.length = 8 * T.size → F.getD j 0 = 0 := fun F hF => by rw [List.getD, List.getElem?_eq_none (by omega)]; rfl
      rw [hg _ (by simp [hflen]), hg _ (by simp [hlen]), hg _ hE]
/-- what was sealed and then turned within sixteen places is no more sealed -/
theorem not_sealed (V : ByteArray) (U : ByteArray) (x : Nat) (hx : x ≠ 0) (h : reg 65535 (octN U) = reg 65535 (octN (sealB V)) ^^^ x) (A : ByteArray) : sealB A ≠ U := by
  intro e
  rw [← e, reg_sealed, reg_sealed] at h
  have h2 : 61624 ^^^ (61624 ^^^ x) = 61624 ^^^ 61624 := by rw [← h]
  rw [← Nat.xor_assoc, Nat.xor_self, Nat.zero_xor] at h2
  exact hx h2

/-! ### a burst -/
/-- the places that a pattern turns, from 'at' on, by its first i bits -/
def places (at0 p : Nat) : Nat → List Int
  | 0 => []
  | i + 1 => if p / 2 ^ i % 2 = 1 then places at0 p i ++ [((at0 + i : Nat) : Int)] else places at0 p i
theorem places_zero (at0 : Nat) : ∀ i, places at0 0 i = [] := by
  intro i
  induction i with
  | zero => rfl
  | succ i ih => rw [places, if_neg (by rw [Nat.zero_div]; decide), ih]
theorem places_length (at0 p : Nat) : ∀ i, (places at0 p i).length ≤ i := by
  intro i
  induction i with
  | zero => exact Nat.le_refl _
  | succ i ih =>
    rw [places]; split
    · rw [List.length_append]; exact Nat.add_le_add_right ih 1
    · omega
theorem places_count (at0 p j : Nat) : ∀ i, (places at0 p i).count (j : Int) = if at0 ≤ j ∧ j < at0 + i then p / 2 ^ (j - at0) % 2 else 0 := by
  intro i
  induction i with
  | zero => rw [if_neg (by omega)]; rfl
  | succ i ih =>
    rw [places]
    by_cases hj : j = at0 + i
    · subst hj
      rw [if_neg (by omega)] at ih
      have e : (if at0 ≤ at0 + i ∧ at0 + i < at0 + (i + 1) then p / 2 ^ (at0 + i - at0) % 2 else 0) = p / 2 ^ i % 2 := by
        rw [if_pos (by omega), show at0 + i - at0 = i from by omega]
      rw [e]
      by_cases h : p / 2 ^ i % 2 = 1
      · rw [if_pos h, List.count_append, ih, List.count_singleton, h]; simp
      · rw [if_neg h, ih]; omega
    · have e : (if at0 ≤ j ∧ j < at0 + (i + 1) then p / 2 ^ (j - at0) % 2 else 0) = (if at0 ≤ j ∧ j < at0 + i then p / 2 ^ (j - at0) % 2 else 0) := by
        by_cases h : at0 ≤ j ∧ j < at0 + i
        · rw [if_pos h, if_pos (by omega)]
        · rw [if_neg h, if_neg (by omega)]
      rw [e, ← ih]
      split
      · rw [List.count_append, List.count_singleton]
        have : ((((at0 + i : Nat) : Int)) == (j : Int)) = false := by simp; omega
        rw [this]; simp
      · rfl
/-- the pattern, among all bits -/
def burst (n at0 p : Nat) : List Nat := List.replicate at0 0 ++ low p 16 ++ List.replicate (n - at0 - 16) 0
theorem burst_length (n at0 p : Nat) (h : at0 + 16 ≤ n) : (burst n at0 p).length = n := by
  simp [burst, low_length]; omega
theorem burst_get (n at0 p j : Nat) (h : at0 + 16 ≤ n) (hj : j < n) : (burst n at0 p).getD j 0 = if at0 ≤ j ∧ j < at0 + 16 then p / 2 ^ (j - at0) % 2 else 0 := by
  rw [burst, List.getD]
  by_cases h1 : j < at0
  · rw [if_neg (by omega), List.append_assoc, List.getElem?_append_left (by simp; omega), List.getElem?_replicate, if_pos h1]; rfl
  · by_cases h2 : j < at0 + 16
    · have hl := low_get 16 p (j - at0) (by omega)
      rw [List.getD] at hl
      rw [if_pos (by omega), List.append_assoc, List.getElem?_append_right (by simp; omega), List.length_replicate, List.getElem?_append_left (by rw [low_length]; omega), hl]
    · rw [if_neg (by omega), List.getElem?_append_right (by simp [low_length]; omega), List.getElem?_replicate]
      split <;> rfl
theorem burst_ne (n at0 p : Nat) (hp : p < 65536) (h0 : p ≠ 0) : run 0 (burst n at0 p) ≠ 0 :=
  run_burst _ p _ (fun x hx => by rw [List.eq_of_mem_replicate hx]) (fun x hx => by rw [List.eq_of_mem_replicate hx]) hp h0
/-- with some bits turned, all less than sixteen places apart, no text's seal is what comes out -/
theorem burst_seen (V : ByteArray) (at0 p : Nat) (ha : at0 + 16 ≤ 8 * (sealB V).size) (hp : p < 65536) :
    ∃ U : ByteArray, U.size = (sealB V).size ∧ Bm.flips (Bm.ofN (Bm.nums (sealB V))) (places at0 p 16) = Bm.ofN (Bm.nums U) ∧ (p ≠ 0 → ∀ A, sealB A ≠ U) := by
  obtain ⟨U, h1, h2, h3⟩ := turned (sealB V) (places at0 p 16) (burst (8 * (sealB V).size) at0 p) (burst_length _ _ _ ha) (fun j hj => by rw [burst_get _ _ _ _ ha hj, places_count])
  exact ⟨U, h1, h2, fun h0 A => not_sealed V U _ (burst_ne _ _ _ hp h0) h3 A⟩
/-! ### one bit -/
theorem pow_at (a b : Nat) : 2 ^ a / 2 ^ b % 2 = if a = b then 1 else 0 := by
  have h := Nat.testBit_eq_decide_div_mod_eq (x := 2 ^ a) (i := b)
  rw [Nat.testBit_two_pow] at h
  by_cases e : a = b
  · rw [if_pos e]; simpa [e] using h
  · rw [if_neg e]
    have : ¬ 2 ^ a / 2 ^ b % 2 = 1 := by simpa [e] using h
    omega
/-- whichever one bit is turned, no text's seal is what comes out -/
theorem each_seen (V : ByteArray) (i : Nat) (hi : i < 8 * (sealB V).size) :
    ∃ U : ByteArray, U.size = (sealB V).size ∧ Bm.flips (Bm.ofN (Bm.nums (sealB V))) [(i : Int)] = Bm.ofN (Bm.nums U) ∧ ∀ A, sealB A ≠ U := by
  have hs := sealB_size V
  obtain ⟨at0, h0, h1, h2⟩ : ∃ at0, at0 + 16 ≤ 8 * (sealB V).size ∧ at0 ≤ i ∧ i < at0 + 16 := by
    by_cases h : i + 16 ≤ 8 * (sealB V).size
    · exact ⟨i, h, Nat.le_refl _, by omega⟩
    · exact ⟨8 * (sealB V).size - 16, by omega, by omega, by omega⟩
  have hp : 2 ^ (i - at0) < 65536 := Nat.pow_lt_pow_right (by decide) (show i - at0 < 16 by omega)
  obtain ⟨U, g1, g2, g3⟩ := turned (sealB V) [(i : Int)] (burst (8 * (sealB V).size) at0 (2 ^ (i - at0))) (burst_length _ _ _ h0) (fun j hj => by
    rw [burst_get _ _ _ _ h0 hj, pow_at, List.count_singleton]
    by_cases e : i = j
    · subst e; rw [if_pos (by omega), if_pos rfl]; simp
    · have e2 : ((i : Int) == (j : Int)) = false := by simp; omega
      rw [e2]
      by_cases hw : at0 ≤ j ∧ j < at0 + 16
      · rw [if_pos hw, if_neg (by omega)]; simp
      · rw [if_neg hw]; simp)
  refine ⟨U, g1, g2, fun A => not_sealed V U _ (burst_ne _ _ _ hp ?_) g3 A⟩
  have := Nat.two_pow_pos (i - at0)
  omega
end Go.Proofs.YtdcohbdndkphnaaDoor.Fm
