/-
  Numbers whose least bit is turned, one after the other. It imports nothing of the program.
-/
import Derived.Test.YtjhlmckghkjdmaaDrawMath
namespace Go.Proofs.Ytjhlmckghkjdmaa
open Go.RowKit
set_option linter.unusedVariables false
set_option linter.unusedSimpArgs false

theorem xor1 (a : Nat) : a ^^^ 1 = if a % 2 = 0 then a + 1 else a - 1 := by
  have h1 := Nat.xor_div_two_pow (a := a) (b := 1) (n := 1)
  have h2 : (a ^^^ 1) % 2 = 1 ↔ ¬ (a % 2 = 1) := by
    rw [Nat.xor_mod_two_eq_one]
    constructor
    · intro h e; exact h ⟨fun _ => rfl, fun _ => e⟩
    · intro h e; exact h (e.2 rfl)
  simp only [Nat.pow_one, Nat.reduceDiv, Nat.xor_zero] at h1
  split <;> omega
theorem xor_bv (v : Int) (h : -9223372036854775808 ≤ v ∧ v ≤ 9223372036854775807) : IntKind.i64.wrap ((BitVec.ofInt 64 v ^^^ BitVec.ofInt 64 1).toNat : Nat) = if v % 2 = 0 then v + 1 else v - 1 := by
  have e : (BitVec.ofInt 64 v ^^^ BitVec.ofInt 64 1).toNat = (BitVec.ofInt 64 v).toNat ^^^ 1 := by simp
  rw [e, xor1]
  have e2 : (BitVec.ofInt 64 v).toNat = (v % 18446744073709551616).toNat := by simp [BitVec.toNat_ofInt]
  rw [e2]
  have hw : ∀ n : Int, IntKind.i64.wrap n = if n % 18446744073709551616 ≥ 9223372036854775808 then n % 18446744073709551616 - 18446744073709551616 else n % 18446744073709551616 := by
    intro n
    unfold IntKind.wrap
    simp [IntKind.signed, IntKind.bits]
  rw [hw]
  split <;> split <;> split <;> omega

theorem xor_tw (v : Int) (h : -9223372036854775808 ≤ v ∧ v ≤ 9223372036854775807) : bits .xor .i64 v 1 = Dm.tw v := xor_bv v h
/-- the first i of them are turned -/
def tws (F : List Int) (i : Nat) : List Int := (F.take i).map Dm.tw ++ F.drop i
theorem tws_zero (F : List Int) : tws F 0 = F := by simp [tws]
theorem tws_all (F : List Int) (i : Nat) (h : F.length ≤ i) : tws F i = F.map Dm.tw := by
  unfold tws
  rw [List.take_of_length_le h, List.drop_eq_nil_of_le h, List.append_nil]
theorem tws_length (F : List Int) (i : Nat) : (tws F i).length = F.length := by
  simp [tws]; omega
theorem tws_get (F : List Int) (i : Nat) (h : i < F.length) : (tws F i).getD i 0 = F.getD i 0 := by
  unfold tws
  simp only [List.getD_eq_getElem?_getD]
  rw [List.getElem?_append_right (by simp; omega)]
  simp [Nat.min_eq_left (Nat.le_of_lt h)]
theorem tws_step (F : List Int) (i : Nat) (h : i < F.length) : (tws F i).set i (Dm.tw (F.getD i 0)) = tws F (i + 1) := by
  apply List.ext_getElem?
  intro j
  rw [List.getElem?_set]
  unfold tws
  have hl : ((F.take i).map Dm.tw).length = i := by simp; omega
  have hl' : ((F.take (i + 1)).map Dm.tw).length = i + 1 := by simp; omega
  by_cases e : i = j
  · subst e
    rw [if_pos rfl, if_pos (by simp; omega), List.getElem?_append_left (by omega)]
    simp [List.getElem?_eq_getElem h]
  · rw [if_neg e]
    by_cases hj : j < i
    · rw [List.getElem?_append_left (by omega), List.getElem?_append_left (by omega)]
      simp [List.getElem?_take, hj, show j < i + 1 by omega]
    · rw [List.getElem?_append_right (by omega), List.getElem?_append_right (by omega), hl, hl', List.getElem?_drop, List.getElem?_drop]
      congr 1
      omega
theorem tw_in (F : List Int) (h : ∀ n ∈ F, -9223372036854775808 ≤ n ∧ n ≤ 9223372036854775807) : ∀ n ∈ F.map Dm.tw, -9223372036854775808 ≤ n ∧ n ≤ 9223372036854775807 := by
  intro n hn
  obtain ⟨v, hv, rfl⟩ := List.mem_map.1 hn
  exact ⟨Dm.tw_lo v (h v hv).1, Dm.tw_hi v (h v hv).2⟩
end Go.Proofs.Ytjhlmckghkjdmaa
