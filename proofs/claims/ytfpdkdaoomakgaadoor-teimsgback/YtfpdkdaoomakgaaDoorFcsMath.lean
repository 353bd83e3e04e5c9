/-
  Plain arithmetic of the check sequence: the register, bit by bit; it is linear over exclusive or; a burst of at most sixteen places is seen. It imports nothing of the program.
-/
import Derived.RowKit
import Derived.Laws.BitsAllLaws
import Derived.Laws.BytesArg
namespace Go.Proofs.YtfpdkdaoomakgaaDoor.Fm
open Go.RowKit
set_option linter.unusedVariables false
set_option linter.unusedSimpArgs false

/-- what is combined with the register: 8408 in sixteens, if the bit b (0 or 1) is 1 -/
def mask (b : Nat) : Nat := if b % 2 = 1 then 33800 else 0
/-- P2.1: the register behind one bit more; of x only the lowest bit counts -/
def bit1 (r x : Nat) : Nat := (r / 2) ^^^ mask (r + x)
/-- the register behind some bits -/
def run (r : Nat) (l : List Nat) : Nat := l.foldl bit1 r

theorem xor_mod2 (a b : Nat) : (a ^^^ b) % 2 = (a + b) % 2 := by
  have h1 := Nat.testBit_xor a b 0
  have e : ∀ n : Nat, n.testBit 0 = decide (n % 2 = 1) := fun n => Nat.testBit_zero n
  rw [e, e, e] at h1
  have ha : a % 2 = 0 ∨ a % 2 = 1 := by omega
  have hb : b % 2 = 0 ∨ b % 2 = 1 := by omega
  have hx : (a ^^^ b) % 2 = 0 ∨ (a ^^^ b) % 2 = 1 := by omega
  rcases ha with ha | ha <;> rcases hb with hb | hb <;> rcases hx with hx | hx <;> rw [ha, hb, hx] at h1 <;> first | omega | (exact absurd h1 (by decide))
theorem xor_eq0 (a b : Nat) (h : a ^^^ b = 0) : a = b := by
  have e : a ^^^ b ^^^ b = b := by rw [h, Nat.zero_xor]
  rwa [Nat.xor_assoc, Nat.xor_self, Nat.xor_zero] at e
theorem xor_div2 (a b : Nat) : (a ^^^ b) / 2 = a / 2 ^^^ b / 2 := Nat.xor_div_two
theorem mask_xor (a b c : Nat) (h : c % 2 = (a + b) % 2) : mask c = mask a ^^^ mask b := by
  have ha : a % 2 = 0 ∨ a % 2 = 1 := by omega
  have hb : b % 2 = 0 ∨ b % 2 = 1 := by omega
  rcases ha with ha | ha <;> rcases hb with hb | hb
  · have hc : c % 2 = 0 := by omega
    simp [mask, ha, hb, hc]
  · have hc : c % 2 = 1 := by omega
    simp [mask, ha, hb, hc]
  · have hc : c % 2 = 1 := by omega
    simp [mask, ha, hb, hc]
  · have hc : c % 2 = 0 := by omega
    simp [mask, ha, hb, hc]
theorem xor4 (a b c d : Nat) : (a ^^^ b) ^^^ (c ^^^ d) = (a ^^^ c) ^^^ (b ^^^ d) := by
  rw [Nat.xor_assoc, Nat.xor_assoc, ← Nat.xor_assoc b c d, Nat.xor_comm b c, Nat.xor_assoc c b d]
theorem bit1_xor (r q x y z : Nat) (h : z % 2 = (x + y) % 2) : bit1 (r ^^^ q) z = bit1 r x ^^^ bit1 q y := by
  have hm := xor_mod2 r q
  rw [bit1, bit1, bit1, xor_div2, mask_xor (r + x) (q + y) _ (by omega), xor4]

theorem mask_lt (b : Nat) : mask b < 2 ^ 16 := by unfold mask; split <;> decide
theorem bit1_lt (r x : Nat) (h : r < 65536) : bit1 r x < 65536 :=
  Nat.xor_lt_two_pow (n := 16) (by omega) (mask_lt _)
theorem run_lt (l : List Nat) : ∀ r, r < 65536 → run r l < 65536 := by
  induction l with
  | nil => intro r h; exact h
  | cons x l ih => intro r h; exact ih _ (bit1_lt r x h)
theorem run_append (r : Nat) (a b : List Nat) : run r (a ++ b) = run (run r a) b := by simp [run]

/-- bits that differ: of each place the sum -/
theorem run_xor : ∀ (a b c : List Nat) (r q : Nat), a.length = c.length → b.length = c.length → (∀ i, (c.getD i 0) % 2 = (a.getD i 0 + b.getD i 0) % 2) → run (r ^^^ q) c = run r a ^^^ run q b
  | [], [], [], r, q, _, _, _ => rfl
  | x :: a, y :: b, z :: c, r, q, ha, hb, h => by
    have h0 := h 0
    simp only [List.getD_cons_zero] at h0
    show run (bit1 (r ^^^ q) z) c = run (bit1 r x) a ^^^ run (bit1 q y) b
    rw [bit1_xor r q x y z h0]
    exact run_xor a b c _ _ (by simpa using ha) (by simpa using hb) (fun i => by have := h (i + 1); simpa using this)
  | [], _, _ :: _, r, q, ha, _, _ => by simp at ha
  | _ :: _, _, [], r, q, ha, _, _ => by simp at ha
  | _, [], _ :: _, r, q, _, hb, _ => by simp at hb
  | _, _ :: _, [], r, q, _, hb, _ => by simp at hb

/-- a register that isn't 0 isn't behind a 0 -/
theorem bit1_ne (r x : Nat) (h : r < 65536) (hx : x % 2 = 0) (hr : r ≠ 0) : bit1 r x ≠ 0 := by
  intro e
  have e2 : r / 2 = mask (r + x) := xor_eq0 _ _ e
  unfold mask at e2
  split at e2 <;> omega
theorem run_ne (l : List Nat) : ∀ r, r < 65536 → (∀ x ∈ l, x % 2 = 0) → r ≠ 0 → run r l ≠ 0 := by
  induction l with
  | nil => intro r _ _ h; exact h
  | cons x l ih =>
    intro r h hl hr
    exact ih _ (bit1_lt r x h) (fun y hy => hl y (by simp [hy])) (bit1_ne r x h (hl x (by simp)) hr)
theorem run_zero (l : List Nat) (h : ∀ x ∈ l, x % 2 = 0) : run 0 l = 0 := by
  induction l with
  | nil => rfl
  | cons x l ih =>
    have hx := h x (by simp)
    have e : bit1 0 x = 0 := by simp [bit1, mask, hx]
    show run (bit1 0 x) l = 0
    rw [e]; exact ih (fun y hy => h y (by simp [hy]))

/-- the k lowest bits of a number, the lowest first -/
def low (d : Nat) : Nat → List Nat
  | 0 => []
  | k + 1 => d % 2 :: low (d / 2) k
theorem low_length (k : Nat) : ∀ d, (low d k).length = k := by
  induction k with
  | zero => intro d; rfl
  | succ k ih => intro d; simp [low, ih]
theorem low_get (k : Nat) : ∀ d i, i < k → (low d k).getD i 0 = d / 2 ^ i % 2 := by
  induction k with
  | zero => intro d i h; omega
  | succ k ih =>
    intro d i h
    cases i with
    | zero => simp [low]
    | succ i =>
      rw [low, List.getD_cons_succ, ih (d / 2) i (by omega), Nat.div_div_eq_div_mul, Nat.pow_succ, Nat.mul_comm]
/-- a number goes in as it would stand in the register -/
theorem run_low (k : Nat) : ∀ r d, d < 2 ^ k → run r (low d k) = run (r ^^^ d) (List.replicate k 0) := by
  induction k with
  | zero => intro r d h; have : d = 0 := by simpa using h
            subst this; simp [low, run]
  | succ k ih =>
    intro r d h
    show run (bit1 r (d % 2)) (low (d / 2) k) = run (bit1 (r ^^^ d) 0) (List.replicate k 0)
    rw [ih _ _ (by rw [Nat.pow_succ] at h; omega)]
    have e : bit1 r (d % 2) ^^^ d / 2 = bit1 (r ^^^ d) 0 := by
      rw [bit1, bit1, xor_div2]
      have hm := xor_mod2 r d
      have em : mask (r + d % 2) = mask ((r ^^^ d) + 0) := by unfold mask; rw [show (r + d % 2) % 2 = ((r ^^^ d) + 0) % 2 from by omega]
      rw [em, Nat.xor_assoc, Nat.xor_comm (mask _), ← Nat.xor_assoc]
    rw [e]
theorem run_zeros (l : List Nat) (h : ∀ x ∈ l, x % 2 = 0) (a b : Nat) : run (a ^^^ b) l = run a l ^^^ run b l := by
  refine run_xor l l l a b rfl rfl (fun i => ?_)
  by_cases hi : i < l.length
  · have := h _ (List.getElem_mem hi)
    rw [List.getD, List.getElem?_eq_getElem hi]; simp only [Option.getD_some]; omega
  · rw [List.getD, List.getElem?_eq_none (by omega)]; rfl
/-- of two registers that come to the same behind zeros -/
theorem run_inj (l : List Nat) (h : ∀ x ∈ l, x % 2 = 0) (a b : Nat) (ha : a < 65536) (hb : b < 65536) (e : run a l = run b l) : a = b := by
  have e2 := run_zeros l h a b
  rw [e, Nat.xor_self] at e2
  have hx : a ^^^ b < 65536 := Nat.xor_lt_two_pow (n := 16) (by omega) (by omega)
  have h0 : a ^^^ b = 0 := by
    rcases Nat.eq_zero_or_pos (a ^^^ b) with h0 | h0
    · exact h0
    · exact absurd e2 (run_ne l _ hx h (by omega))
  exact xor_eq0 _ _ h0
theorem run_res : run 65535 (List.replicate 16 0) = 61624 := by decide
/-- the complement is what stands beyond it -/
theorem xor_ones (r : Nat) (h : r < 65536) : r ^^^ (65535 - r) = 65535 := by
  have e : 65535 - r = r ^^^ 65535 := by
    have h1 : (r ^^^ (2 ^ 16 - 1)) = 2 ^ 16 - 1 - r := by
      apply Nat.eq_of_testBit_eq
      intro i
      rw [Nat.testBit_xor, Nat.testBit_two_pow_sub_one]
      rw [show 2 ^ 16 - 1 - r = 2 ^ 16 - (r + 1) from by omega, Nat.testBit_two_pow_sub_succ (by omega)]
      by_cases hi : i < 16
      · simp [hi]
      · have : r.testBit i = false := Nat.testBit_lt_two_pow (Nat.lt_of_lt_of_le h (by
          have : (2 : Nat) ^ 16 ≤ 2 ^ i := Nat.pow_le_pow_right (by decide) (by omega)
          exact this))
        simp [hi, this]
    exact h1.symm
  rw [e, ← Nat.xor_assoc, Nat.xor_self, Nat.zero_xor]
/-- the register behind what was sealed -/
theorem run_seal (r : Nat) (h : r < 65536) : run r (low (65535 - r) 16) = 61624 := by
  rw [run_low 16 r _ (by omega), xor_ones r h, run_res]
/-- the two octets behind are right just if the register is so -/
theorem seal_iff (r d : Nat) (h : r < 65536) (hd : d < 65536) : run r (low d 16) = 61624 ↔ d = 65535 - r := by
  constructor
  · intro e
    rw [run_low 16 r d hd, ← run_res] at e
    have hx : r ^^^ d < 65536 := Nat.xor_lt_two_pow (n := 16) (by omega) (by omega)
    have e2 := run_inj _ (fun x hx => by rw [List.eq_of_mem_replicate hx]) _ _ hx (by decide) e
    have e3 := xor_ones r h
    rw [← e3] at e2
    have e4 : r ^^^ (r ^^^ d) = r ^^^ (r ^^^ (65535 - r)) := by rw [e2]
    rwa [← Nat.xor_assoc, ← Nat.xor_assoc, Nat.xor_self, Nat.zero_xor, Nat.zero_xor] at e4
  · intro e; rw [e]; exact run_seal r h
/-- some bits turned, all in one piece of at most sixteen places -/
theorem run_burst (z : List Nat) (p : Nat) (y : List Nat) (hz : ∀ x ∈ z, x % 2 = 0) (hy : ∀ x ∈ y, x % 2 = 0) (hp : p < 65536) (h0 : p ≠ 0) : run 0 (z ++ low p 16 ++ y) ≠ 0 := by
  rw [run_append, run_append, run_zero z hz, run_low 16 0 p hp, Nat.zero_xor]
  refine run_ne y _ (run_lt _ _ hp) hy (run_ne _ p hp (fun x hx => by rw [List.eq_of_mem_replicate hx]) h0)

/-! ### octets -/
/-- P2.1: the register behind one octet more -/
def step (r c : Nat) : Nat := run r (low c 8)
theorem step_lt (r c : Nat) (h : r < 65536) : step r c < 65536 := run_lt _ _ h
def stepK (r c k : Nat) : Nat := run r ((low c 8).take k)
theorem low_take (k : Nat) : ∀ d i, i < k → (low d k).take (i + 1) = (low d k).take i ++ [d / 2 ^ i % 2] := by
  intro d i h
  have hl : i < (low d k).length := by rw [low_length]; exact h
  rw [List.take_succ_eq_append_getElem hl]
  have := low_get k d i h
  rw [List.getD, List.getElem?_eq_getElem hl] at this
  simp only [Option.getD_some] at this
  rw [this]
theorem stepK_succ (r c k : Nat) (h : k < 8) : stepK r c (k + 1) = bit1 (stepK r c k) (c / 2 ^ k % 2) := by
  rw [stepK, low_take 8 c k h, run_append]; rfl
theorem stepK_lt (r c k : Nat) (h : r < 65536) : stepK r c k < 65536 := run_lt _ _ h
theorem stepK_8 (r c : Nat) : stepK r c 8 = step r c := by rw [stepK, List.take_of_length_le (by rw [low_length]; exact Nat.le_refl _)]; rfl
/-- the register behind some octets -/
def reg (r : Nat) (l : List Nat) : Nat := l.foldl step r
theorem reg_lt (l : List Nat) : ∀ r, r < 65536 → reg r l < 65536 := by
  induction l with
  | nil => intro r h; exact h
  | cons x l ih => intro r h; exact ih _ (step_lt r x h)
theorem reg_append (r : Nat) (a b : List Nat) : reg r (a ++ b) = reg (reg r a) b := by simp [reg]
theorem reg_run (l : List Nat) : ∀ r, reg r l = run r (l.flatMap fun c => low c 8) := by
  induction l with
  | nil => intro r; rfl
  | cons x l ih => intro r; rw [List.flatMap_cons, run_append]; exact ih _
theorem low_two (a b : Nat) (ha : a < 256) : low (a + 256 * b) 16 = low a 8 ++ low b 8 := by
  apply List.ext_getElem?
  intro i
  by_cases hi : i < 16
  · have e : ∀ (l : List Nat) (i : Nat), i < l.length → l[i]? = some (l.getD i 0) := fun l i h => by rw [List.getD, List.getElem?_eq_getElem h]; rfl
    rw [e _ i (by rw [low_length]; exact hi), low_get 16 _ i hi]
    by_cases h8 : i < 8
    · rw [List.getElem?_append_left (by rw [low_length]; exact h8), e _ i (by rw [low_length]; exact h8), low_get 8 _ i h8]
      have hk : i = 0 ∨ i = 1 ∨ i = 2 ∨ i = 3 ∨ i = 4 ∨ i = 5 ∨ i = 6 ∨ i = 7 := by omega
      rcases hk with rfl | rfl | rfl | rfl | rfl | rfl | rfl | rfl <;> simp <;> omega
    · rw [List.getElem?_append_right (by rw [low_length]; omega), low_length, e _ (i - 8) (by rw [low_length]; omega), low_get 8 _ (i - 8) (by omega)]
      obtain ⟨j, rfl⟩ : ∃ j, i = 8 + j := ⟨i - 8, by omega⟩
      rw [Nat.pow_add, ← Nat.div_div_eq_div_mul, show (a + 256 * b) / 2 ^ 8 = b from by omega, show 8 + j - 8 = j from by omega]
  · rw [List.getElem?_eq_none (by rw [low_length]; omega), List.getElem?_eq_none (by simp [low_length]; omega)]
/-- the two octets behind are right just if the register behind all is so -/
theorem reg_seal (l : List Nat) (a b : Nat) (ha : a < 256) (hb : b < 256) : reg 65535 (l ++ [a, b]) = 61624 ↔ a + 256 * b = 65535 - reg 65535 l := by
  have hr := reg_lt l 65535 (by decide)
  rw [← seal_iff (reg 65535 l) (a + 256 * b) hr (by omega), low_two a b ha, run_append, reg_append]
  rfl
theorem low_xor (k : Nat) : ∀ c d, low (c ^^^ d) k = List.zipWith (fun x y => (x + y) % 2) (low c k) (low d k) := by
  induction k with
  | zero => intro c d; rfl
  | succ k ih => intro c d; rw [low, low, low, xor_div2, ih, xor_mod2, List.zipWith_cons_cons]; congr 1; omega
theorem step_xor (r q c d : Nat) : step (r ^^^ q) (c ^^^ d) = step r c ^^^ step q d := by
  rw [step, low_xor]
  refine run_xor _ _ _ _ _ (by simp [low_length]) (by simp [low_length]) (fun i => ?_)
  by_cases hi : i < 8
  · rw [List.getD, List.getElem?_zipWith, List.getD, List.getD, List.getElem?_eq_getElem (by rw [low_length]; exact hi), List.getElem?_eq_getElem (by rw [low_length]; exact hi)]
    simp
  · have e : ∀ l : List Nat, l.length = 8 → l.getD i 0 = 0 := fun l h => by rw [List.getD, List.getElem?_eq_none (by omega)]; rfl
    rw [e _ (by simp [low_length]), e _ (low_length 8 _), e _ (low_length 8 _)]
theorem reg_xor : ∀ (a b : List Nat) (r q : Nat), a.length = b.length → reg (r ^^^ q) (List.zipWith (· ^^^ ·) a b) = reg r a ^^^ reg q b
  | [], [], r, q, _ => rfl
  | x :: a, y :: b, r, q, h => by
    show reg (step (r ^^^ q) (x ^^^ y)) (List.zipWith (· ^^^ ·) a b) = reg (step r x) a ^^^ reg (step q y) b
    rw [step_xor]; exact reg_xor a b _ _ (by simpa using h)
  | [], _ :: _, r, q, h => by simp at h
  | _ :: _, [], r, q, h => by simp at h

/-! ### what the program reckons -/
theorem nat_div_pow (c k : Nat) : (c : Int) / 2 ^ k = ((c / 2 ^ k : Nat) : Int) := by
  rw [Int.natCast_ediv]; simp
theorem code_test (q c k : Nat) (hq : q < 65536) (hc : c < 256) : (bits .and .u16 (q : Int) 1 != IntKind.u16.wrap (bits .and .u8 ((c : Int) / 2 ^ k) 1)) = decide ((q + c / 2 ^ k % 2) % 2 = 1) := by
  have hd : c / 2 ^ k ≤ c := Nat.div_le_self _ _
  rw [nat_div_pow, show (1 : Int) = ((1 : Nat) : Int) from rfl, u16_and_nat q 1 hq (by decide), u8_and_nat _ 1 (by omega) (by decide), nat_mask1, nat_mask1, IntKind.wrap_u16]
  generalize c / 2 ^ k = x at *
  by_cases h : (q + x % 2) % 2 = 1
  · rw [decide_eq_true h]; simp; omega
  · rw [decide_eq_false h]; simp; omega
theorem code_next (q x : Nat) (hq : q < 65536) (h : (q + x) % 2 = 1) : bits .xor .u16 ((q : Int) / 2) 33800 = ((bit1 q x : Nat) : Int) := by
  rw [bit1, mask, if_pos h, show ((q : Int) / 2) = ((q / 2 : Nat) : Int) from by omega, show (33800 : Int) = ((33800 : Nat) : Int) from rfl, u16_xor_nat _ _ (by omega) (by decide)]
theorem code_keep (q x : Nat) (h : ¬ (q + x) % 2 = 1) : (q : Int) / 2 = ((bit1 q x : Nat) : Int) := by
  rw [bit1, mask, if_neg h, Nat.xor_zero]; omega

/-! ### texts -/
/-- the numbers of a text's octets -/
def octN (s : ByteArray) : List Nat := s.data.toList.map fun c => c.toNat
theorem octN_length (s : ByteArray) : (octN s).length = s.size := by
  rw [octN, List.length_map, Array.length_toList]; rfl
theorem octN_get (s : ByteArray) (i : Nat) (h : i < s.size) : (octN s)[i]'(by rw [octN_length]; exact h) = s[i].toNat := by
  simp [octN]; rfl
theorem octN_lt (s : ByteArray) : ∀ n ∈ octN s, n < 256 := by
  intro n hn
  simp only [octN, List.mem_map] at hn
  obtain ⟨c, _, rfl⟩ := hn
  exact c.toNat_lt
theorem octN_take (s : ByteArray) (i : Nat) (h : i < s.size) : (octN s).take (i + 1) = (octN s).take i ++ [s[i].toNat] := by
  rw [List.take_succ_eq_append_getElem (by rw [octN_length]; exact h), octN_get s i h]
theorem octN_append (a b : ByteArray) : octN (a ++ b) = octN a ++ octN b := by simp [octN]
/-- the register behind the first i octets, begun with r -/
def regK (r : Nat) (s : ByteArray) (i : Nat) : Nat := reg r ((octN s).take i)
theorem regK_lt (r : Nat) (s : ByteArray) (i : Nat) (h : r < 65536) : regK r s i < 65536 := reg_lt _ _ h
theorem regK_succ (r : Nat) (s : ByteArray) (i : Nat) (h : i < s.size) : regK r s (i + 1) = step (regK r s i) s[i].toNat := by
  rw [regK, octN_take s i h, reg_append]; rfl
theorem regK_all (r : Nat) (s : ByteArray) : regK r s s.size = reg r (octN s) := by rw [regK, List.take_of_length_le (by rw [octN_length]; exact Nat.le_refl _)]
/-- P2.1: the check sequence -/
def sum (s : ByteArray) : Nat := 65535 - reg 65535 (octN s)
theorem sum_lt (s : ByteArray) : sum s < 65536 := by unfold sum; omega
theorem compl_u16 (q : Nat) (h : q < 65536) : bits .xor .u16 IntKind.u16.max (q : Int) = ((65535 - q : Nat) : Int) := by
  have e : 65535 ^^^ q = 65535 - q := by
    have h1 := xor_ones q h
    have h2 : (q ^^^ (65535 - q)) ^^^ q = 65535 - q := by rw [Nat.xor_comm q, Nat.xor_assoc, Nat.xor_self, Nat.xor_zero]
    rw [h1] at h2; exact h2
  rw [show IntKind.u16.max = ((65535 : Nat) : Int) from by decide, u16_xor_nat _ _ (by decide) h, e]
/-- P2.2: the octets, and behind them the check sequence, its lower octet first -/
def sealB (s : ByteArray) : ByteArray := s ++ strOfNums [(sum s : Int) % 256, (sum s : Int) / 256 % 256]
theorem sealB_size (s : ByteArray) : (sealB s).size = s.size + 2 := by
  rw [sealB, ByteArray.size_append, strOfNums_size]; rfl

/-! ### the document's way -/
theorem xor_at (a b i : Nat) : (a ^^^ b) / 2 ^ i % 2 = (a / 2 ^ i + b / 2 ^ i) % 2 := by
  have h : ∀ n : Nat, n / 2 ^ i % 2 = if n.testBit i then 1 else 0 := fun n => by
    rw [Nat.testBit_eq_decide_div_mod_eq]
    have : n / 2 ^ i % 2 = 0 ∨ n / 2 ^ i % 2 = 1 := by omega
    rcases this with e | e <;> rw [e] <;> simp
  have hx := h (a ^^^ b)
  have ha := h a
  have hb := h b
  rw [Nat.testBit_xor] at hx
  cases h1 : a.testBit i <;> cases h2 : b.testBit i <;> rw [h1, h2] at hx <;> rw [h1] at ha <;> rw [h2] at hb <;> simp at hx ha hb <;> omega
theorem pow_cast (i : Nat) : (2 : Int) ^ i = ((2 ^ i : Nat) : Int) := by simp
theorem un_true (a b i : Nat) (h : (a ^^^ b) / 2 ^ i % 2 = 1) : ((a : Int) / 2 ^ i % 2 != (b : Int) / 2 ^ i % 2) = true := by
  rw [xor_at] at h
  rw [nat_div_pow, nat_div_pow]
  generalize a / 2 ^ i = x at *; generalize b / 2 ^ i = y at *
  simp; omega
theorem un_false (a b i : Nat) (h : ¬ (a ^^^ b) / 2 ^ i % 2 = 1) : ((a : Int) / 2 ^ i % 2 != (b : Int) / 2 ^ i % 2) = false := by
  rw [xor_at] at h
  rw [nat_div_pow, nat_div_pow]
  generalize a / 2 ^ i = x at *; generalize b / 2 ^ i = y at *
  simp; omega
theorem mod_next (x i : Nat) : x % 2 ^ (i + 1) = x % 2 ^ i + 2 ^ i * (x / 2 ^ i % 2) := by rw [Nat.pow_succ, Nat.mod_mul]

/-! ### what was sealed -/
theorem octN_str (xs : List Int) (h : ∀ n ∈ xs, 0 ≤ n ∧ n ≤ 255) : octN (strOfNums xs) = xs.map Int.toNat := by
  rw [octN, strOfNums_data, List.map_map]
  apply List.map_congr_left
  intro n hn
  have := h n hn
  simp only [Function.comp]
  rw [UInt8.toNat_ofNat_of_lt' (by show n.toNat < 256; omega)]
theorem octN_seal (s : ByteArray) : octN (sealB s) = octN s ++ [sum s % 256, sum s / 256] := by
  have hl := sum_lt s
  rw [sealB, octN_append, octN_str _ (fun n hn => by
    simp only [List.mem_cons, List.not_mem_nil, or_false] at hn
    rcases hn with rfl | rfl <;> omega)]
  have e1 : ((sum s : Int) % 256).toNat = sum s % 256 := by omega
  have e2 : ((sum s : Int) / 256 % 256).toNat = sum s / 256 := by omega
  simp only [List.map_cons, List.map_nil, e1, e2]
/-- P2.3: the register behind what was sealed -/
theorem reg_sealed (s : ByteArray) : reg 65535 (octN (sealB s)) = 61624 := by
  have hl := sum_lt s
  rw [octN_seal, reg_seal _ _ _ (by omega) (by omega)]
  have : sum s = 65535 - reg 65535 (octN s) := rfl
  omega
theorem sum_on (s t : ByteArray) : sum (s ++ t) = 65535 - reg (reg 65535 (octN s)) (octN t) := by
  rw [sum, octN_append, reg_append]
theorem sum_back (s : ByteArray) : 65535 - sum s = reg 65535 (octN s) := by
  have h : reg 65535 (octN s) < 65536 := reg_lt (octN s) 65535 (by decide)
  unfold sum; omega

/-! ### what two texts differ in -/
theorem octN_cut (s : ByteArray) (n : Nat) (h : n ≤ s.size) : octN (s.extract 0 n) = (octN s).take n := by
  have e : (s.extract 0 n).data = s.data.extract 0 n := ByteArray.data_extract ..
  rw [octN, octN, e, ← List.map_take]
  congr 1
  simp [Array.toList_extract, List.extract_eq_take_drop]
theorem compl_xor (a b : Nat) (ha : a < 65536) (hb : b < 65536) : (65535 - a) ^^^ (65535 - b) = a ^^^ b := by
  have e : ∀ q, q < 65536 → 65535 - q = q ^^^ 65535 := fun q h => by
    have h1 := xor_ones q h
    have h2 : q ^^^ (q ^^^ (65535 - q)) = q ^^^ 65535 := by rw [h1]
    rwa [← Nat.xor_assoc, Nat.xor_self, Nat.zero_xor] at h2
  rw [e a ha, e b hb, xor4, Nat.xor_self, Nat.xor_zero]
def diff (s t : ByteArray) (n : Nat) : List Nat := List.zipWith (· ^^^ ·) ((octN s).take n) ((octN t).take n)
theorem diff_length (s t : ByteArray) (n : Nat) (hs : n ≤ s.size) (ht : n ≤ t.size) : (diff s t n).length = n := by
  rw [diff, List.length_zipWith, List.length_take, List.length_take, octN_length, octN_length]; omega
theorem diff_get (s t : ByteArray) (n i : Nat) (hs : n ≤ s.size) (ht : n ≤ t.size) (h : i < n) : (diff s t n)[i]? = some (s[i].toNat ^^^ t[i].toNat) := by
  rw [diff, List.getElem?_zipWith, List.getElem?_take, if_pos h, List.getElem?_take, if_pos h, List.getElem?_eq_getElem (by rw [octN_length]; omega), List.getElem?_eq_getElem (by rw [octN_length]; omega), octN_get s i (by omega), octN_get t i (by omega)]
theorem diff_lt (s t : ByteArray) (n : Nat) : ∀ x ∈ diff s t n, x < 256 := by
  intro x hx
  rw [diff] at hx
  obtain ⟨i, hi, rfl⟩ := List.getElem_of_mem hx
  rw [List.getElem_zipWith]
  have h1 : ((octN s).take n)[i]'(by rw [List.length_zipWith] at hi; omega) < 256 := octN_lt s _ (List.mem_of_mem_take (List.getElem_mem _))
  have h2 : ((octN t).take n)[i]'(by rw [List.length_zipWith] at hi; omega) < 256 := octN_lt t _ (List.mem_of_mem_take (List.getElem_mem _))
  exact Nat.xor_lt_two_pow (n := 8) h1 h2
/-- the row on its way: the first i octets are done -/
def diffK (s t : ByteArray) (n i : Nat) : List Nat := (diff s t n).take i ++ List.replicate (n - i) 0
theorem diffK_zero (s t : ByteArray) (n : Nat) : diffK s t n 0 = List.replicate n 0 := by simp [diffK]
theorem diffK_all (s t : ByteArray) (n : Nat) (hs : n ≤ s.size) (ht : n ≤ t.size) : diffK s t n n = diff s t n := by
  rw [diffK, Nat.sub_self, List.take_of_length_le (by rw [diff_length s t n hs ht]; exact Nat.le_refl _)]; simp
theorem diffK_length (s t : ByteArray) (n i : Nat) (hs : n ≤ s.size) (ht : n ≤ t.size) (h : i ≤ n) : (diffK s t n i).length = n := by
  rw [diffK, List.length_append, List.length_take, diff_length s t n hs ht, List.length_replicate]; omega
theorem diffK_set (s t : ByteArray) (n i : Nat) (hs : n ≤ s.size) (ht : n ≤ t.size) (h : i < n) : (diffK s t n i).set i (s[i].toNat ^^^ t[i].toNat) = diffK s t n (i + 1) := by
  have hl : ((diff s t n).take i).length = i := by rw [List.length_take, diff_length s t n hs ht]; omega
  have hi : i < (diff s t n).length := by rw [diff_length s t n hs ht]; exact h
  have hg := diff_get s t n i hs ht h
  rw [List.getElem?_eq_getElem hi] at hg
  injection hg with hg
  rw [diffK, diffK, List.set_append_right _ _ (by omega), hl, Nat.sub_self, show n - i = (n - (i + 1)) + 1 from by omega, List.replicate_succ, List.set_cons_zero, List.take_succ_eq_append_getElem hi, hg, List.append_assoc]; rfl
theorem zip_zero (l : List Nat) : List.zipWith (· ^^^ ·) l (List.replicate l.length 0) = l := by
  induction l with
  | nil => rfl
  | cons x l ih => rw [List.length_cons, List.replicate_succ, List.zipWith_cons_cons, ih, Nat.xor_zero]
theorem linear (s t : ByteArray) (n : Nat) (hs : n ≤ s.size) (ht : n ≤ t.size) (X Z : ByteArray) (hX : octN X = diff s t n) (hZ : octN Z = List.replicate n 0) :
    sum (s.extract 0 n) ^^^ sum (t.extract 0 n) = sum X ^^^ sum Z := by
  have hl := diff_length s t n hs ht
  rw [sum, sum, sum, sum, compl_xor _ _ (reg_lt _ _ (by decide)) (reg_lt _ _ (by decide)), compl_xor _ _ (reg_lt _ _ (by decide)) (reg_lt _ _ (by decide)), octN_cut s n hs, octN_cut t n ht, hX, hZ,
    ← reg_xor _ _ _ _ (by rw [List.length_take, List.length_take, octN_length, octN_length]; omega), ← reg_xor _ _ _ _ (by rw [hl, List.length_replicate])]
  have e := zip_zero (diff s t n)
  rw [hl] at e
  rw [e]; rfl
theorem octN_nat (l : List Nat) (h : ∀ x ∈ l, x < 256) : octN (strOfNums (l.map fun x : Nat => (x : Int))) = l := by
  rw [octN_str _ (fun n hn => by
    rw [List.mem_map] at hn
    obtain ⟨x, hx, rfl⟩ := hn
    have := h x hx
    omega), List.map_map]
  conv => rhs; rw [← List.map_id l]
  apply List.map_congr_left
  intro x _
  simp
end Go.Proofs.YtfpdkdaoomakgaaDoor.Fm
