/-
  Plain mathematics of a queue: payloads, the first ones of which are sent. It names nothing of the program.
-/
import Derived.Test.YtidemohpngkedabGreatDoorBase
namespace Go.Proofs.YtidemohpngkedabGreatDoor.Qm
set_option linter.unusedVariables false

/-- how many it takes -/
def takes (mo : Int) : Nat := (min (max mo 1) 256).toNat
def pushN (mo : Int) (L : List ByteArray) (s : ByteArray) : Int := if 260 < s.size then 5 else if takes mo ≤ L.length then 10 else 0
def pushL (mo : Int) (L : List ByteArray) (s : ByteArray) : List ByteArray := if 260 < s.size then L else if takes mo ≤ L.length then L else L ++ [s]
def takeS (L : List ByteArray) (sn : Nat) : ByteArray := L.getD sn ByteArray.empty
def takeB (L : List ByteArray) (sn : Nat) : Bool := decide (sn < L.length)
def takeN (L : List ByteArray) (sn : Nat) : Nat := if sn < L.length then sn + 1 else sn
def okN (sn : Nat) (n : Int) : Bool := decide (0 ≤ n ∧ n ≤ (sn : Int))
def doneL (L : List ByteArray) (sn : Nat) (n : Int) : List ByteArray := if okN sn n then L.drop n.toNat else L
def doneS (sn : Nat) (n : Int) : Nat := if okN sn n then sn - n.toNat else sn
def backS (sn : Nat) (n : Int) : Nat := if okN sn n then n.toNat else sn

theorem takes_le (mo : Int) : takes mo ≤ 256 := by unfold takes; omega
theorem takes_pos (mo : Int) : 1 ≤ takes mo := by unfold takes; omega
theorem takes_eq (mo : Int) : ((takes mo : Nat) : Int) = min (max mo 1) 256 := by unfold takes; omega
theorem takes_takes (mo : Int) : takes ((takes mo : Nat) : Int) = takes mo := by
  have := takes_le mo
  have := takes_pos mo
  show (min (max ((takes mo : Nat) : Int) 1) 256).toNat = takes mo
  omega
theorem pushL_length (mo : Int) (L : List ByteArray) (s : ByteArray) (h : L.length ≤ takes mo) : (pushL mo L s).length ≤ takes mo := by
  unfold pushL
  split
  · exact h
  · split
    · exact h
    · simp; omega
theorem pushL_le (mo : Int) (L : List ByteArray) (s : ByteArray) : L.length ≤ (pushL mo L s).length := by
  unfold pushL
  split
  · omega
  · split
    · omega
    · simp
theorem pushL_size (mo : Int) (L : List ByteArray) (s : ByteArray) (h : ∀ x ∈ L, x.size ≤ 260) : ∀ x ∈ pushL mo L s, x.size ≤ 260 := by
  unfold pushL
  split
  · exact h
  · split
    · exact h
    · intro x hx
      simp at hx
      rcases hx with hx | rfl
      · exact h x hx
      · omega
theorem doneL_length (L : List ByteArray) (sn : Nat) (n : Int) : (doneL L sn n).length ≤ L.length := by
  unfold doneL
  split
  · simp
  · omega
theorem doneL_size (L : List ByteArray) (sn : Nat) (n : Int) (h : ∀ x ∈ L, x.size ≤ 260) : ∀ x ∈ doneL L sn n, x.size ≤ 260 := by
  unfold doneL
  split
  · exact fun x hx => h x (List.mem_of_mem_drop hx)
  · exact h
theorem doneS_le (L : List ByteArray) (sn : Nat) (n : Int) (h : sn ≤ L.length) : doneS sn n ≤ (doneL L sn n).length := by
  unfold doneS doneL
  split
  · simp; omega
  · exact h
theorem backS_le (L : List ByteArray) (sn : Nat) (n : Int) (h : sn ≤ L.length) : backS sn n ≤ L.length := by
  unfold backS
  split
  · rename_i hk
    have := of_decide_eq_true hk
    omega
  · exact h
theorem takeN_le (L : List ByteArray) (sn : Nat) (h : sn ≤ L.length) : takeN L sn ≤ L.length := by
  unfold takeN
  split <;> omega
end Go.Proofs.YtidemohpngkedabGreatDoor.Qm
