/-
  The law PoolLate's walk: a TEI that is freed is assigned again as the last one of all that are free; of a nil pool nothing is there.
-/
import Derived.Test.YtdojkaliohcckaaPoolWakes
import Derived.Deep.CutBlock
import Derived.BigQuiet
namespace Go.Proofs.Ytdojkaliohcckaa
open Go.RowKit
set_option linter.unusedVariables false
set_option linter.unusedSimpArgs false

/-- the first i places are taken -/
def firsts (i : Nat) : Nat → Bool := fun p => decide (p < i)
/-- but for the place q the first i are -/
def butOne (q i : Nat) : Nat → Bool := fun p => decide (p < i) && !decide (p = q)
theorem firsts_zero : firsts 0 = fun _ => false := by funext p; simp [firsts]
theorem firsts_next (i : Nat) : Pm.upd (firsts i) i true = firsts (i + 1) := by
  funext p
  by_cases e : p = i
  · subst e; simp [Pm.upd, firsts]
  · simp only [Pm.upd, firsts, if_neg e]
    exact decide_eq_decide.2 (by omega)
theorem firsts_free (n : Nat) : Pm.upd (firsts (n + 1)) n false = butOne n (n + 1) := by
  funext p
  by_cases e : p = n
  · subst e; simp [Pm.upd, butOne]
  · simp [Pm.upd, firsts, butOne, e]
theorem but_next (q i : Nat) (h : q < i) : Pm.upd (butOne q i) i true = butOne q (i + 1) := by
  funext p
  by_cases e : p = i
  · subst e
    have : p ≠ q := by omega
    simp [Pm.upd, butOne, this]
  · simp only [Pm.upd, butOne, if_neg e]
    rw [show decide (p < i + 1) = decide (p < i) from decide_eq_decide.2 (by omega)]

theorem late_first (i : Nat) (h : i < 63) : Pm.asT (firsts i) i = 64 + (i : Int) ∧ Pm.asE (firsts i) i = 0 ∧ Pm.asF (firsts i) i = firsts (i + 1) ∧ Pm.asX (firsts i) i = (i + 1) % 63 := by
  obtain ⟨a1, a2, a3, a4⟩ := Pm.as_here (f := firsts i) h (by simp [firsts])
  exact ⟨a1, a2, by rw [a3, firsts_next], a4⟩
theorem late_free (n : Nat) (h : n < 63) : Pm.has (firsts (n + 1)) (64 + (n : Int)) = true ∧ Pm.frF (firsts (n + 1)) (64 + (n : Int)) = butOne n (n + 1) := by
  obtain ⟨h1, h2⟩ := Pm.au_of n h
  refine ⟨by rw [Pm.has_of _ n h]; simp [firsts], ?_⟩
  rw [Pm.frF, if_pos h1, h2, firsts_free]
theorem late_on (q i : Nat) (hq : q < i) (h : i < 63) : Pm.asT (butOne q i) i = 64 + (i : Int) ∧ Pm.asE (butOne q i) i = 0 ∧ Pm.asF (butOne q i) i = butOne q (i + 1) ∧ Pm.asX (butOne q i) i = (i + 1) % 63 := by
  obtain ⟨a1, a2, a3, a4⟩ := Pm.as_here (f := butOne q i) h (by simp [butOne])
  exact ⟨a1, a2, by rw [a3, but_next q i hq], a4⟩
theorem late_last (q : Nat) (hq : q < 63) : Pm.asT (butOne q 63) 0 = 64 + (q : Int) ∧ Pm.asE (butOne q 63) 0 = 0 :=
  Pm.as_only (by decide) hq (by simp [butOne]) (fun i hi hne => by simp [butOne, hi, hne])

/-- the one told last, behind i of them -/
def lastOf : Nat → Int
  | 0 => 0
  | i + 1 => 64 + (i : Int)
theorem lastOf_next (i : Nat) : lastOf (i + 1) = 64 + (i : Int) := rfl

set_option maxHeartbeats 4000000 in
set_option maxRecDepth 100000 in
theorem walk_PoolLate (n free : Int) (w : World) (hn : -9223372036854775808 ≤ n ∧ n ≤ 9223372036854775807) (hf : -9223372036854775808 ≤ free ∧ free ≤ 9223372036854775807) :
    Calls Try.prog 5 #[.int .i64 n, .int .i64 free] w fun e w' => e = .returned (.bool true) ∧ Below w.heap.size w w' := by
  clear hf
  go_enter Try.func5, Try.ntmps5
  go_wp2_with fail
  refine (pnew_any _).mono ?_
  rintro e w1 ⟨rfl, h1, h2⟩
  have O1 := own_new h1 h2
  clear h1 h2
  obtain ⟨C, hC⟩ : ∃ C, C = w.heap.size := ⟨_, rfl⟩
  rw [← hC, ← firsts_zero] at O1
  rw [← hC]
  have HC : Hid (C = w.heap.size) := hC
  have HO1 : Hid (Own C w w1 C (firsts 0) 0) := O1
  clear hC O1
  go_upto_region 2 with fail
  go_cut [0] from 15 to 18 (fun s0 wx => ∃ q : Nat, q < 63 ∧ s0 = .int .i64 ((q + 1 : Nat) : Int) ∧ w1 = wx)
  case first =>
    by_cases hneg : n ≤ 0
    · go_wp2_with fail
      go_meet
      exact ⟨0, by omega, rfl, rfl⟩
    · have hpos : 0 < n := by omega
      have HX : Hid (∃ q : Nat, q < 63 ∧ 1 + n % 63 = ((q + 1 : Nat) : Int)) := ⟨(n % 63).toNat, by omega, by omega⟩
      have hh := hn.2
      go_wp2_with fail
      go_meet
      obtain ⟨q, hq, hqe⟩ := HX.out
      exact ⟨q, hq, by rw [hqe], rfl⟩
  case rest =>
  obtain ⟨q, hq, rfl, rfl⟩ := hcut
  obtain ⟨m, hm⟩ : ∃ m : Nat, m = q + 1 := ⟨_, rfl⟩
  have HM : Hid (m = q + 1) := hm
  rw [← hm]
  have hm1 : m ≤ 63 := by omega
  clear hm
  go_wp2
  go_loopw [6, 20] (fun v c wr => ∃ i : Nat, i ≤ m ∧ c = .int .i64 i ∧ v = .int .i64 (lastOf i) ∧ Hid (Own C w wr C (firsts i) (i % 63))) (fun _ c _ => m - (intOf c).toNat)
  case atStart => exact ⟨0, Nat.zero_le _, rfl, rfl, HO1⟩
  case round =>
    obtain ⟨i, hi, rfl, rfl, HOi⟩ := hrel
    by_cases hlt2 : i < m
    · have H1 := own_assign HOi.out
      have hi63 : i % 63 = i := Nat.mod_eq_of_lt (by omega)
      rw [hi63] at H1
      obtain ⟨a1, a2, a3, a4⟩ := late_first i (by omega)
      rw [a1, a2, a3, a4] at H1
      clear a1 a2 a3 a4 hi63 HOi HO1
      go_wp2_with fail
      refine H1.mono ?_
      rintro e w2 ⟨rfl, O2⟩
      have HO2 : Hid (Own C w w2 C (firsts (i + 1)) ((i + 1) % 63)) := O2
      clear H1 O2
      go_wp2
      go_roundw
      case rel => exact ⟨i + 1, by omega, by go_num, by rw [lastOf_next], HO2⟩
      case measure => simp [intOf]; omega
    · have him : i = m := by omega
      subst him
      have HL : Hid (lastOf i = 64 + (q : Int)) := by show lastOf i = _; rw [HM.out, lastOf_next]
      rw [HL.out]
      have HOk : Hid (Own C w wr C (firsts (q + 1)) ((q + 1) % 63)) := by have := HOi.out; rw [HM.out] at this; exact this
      have hi1 : 1 ≤ i := by have := HM.out; omega
      clear HOi HO1 hlt2 HL hi hn
      go_wp2_with fail
      refine (pwakes_any _).mono ?_
      rintro e w3 ⟨rfl, hb3⟩
      have H1 := own_free (64 + (q : Int)) (HOk.out.below hb3)
      obtain ⟨a1, a2⟩ := late_free q hq
      rw [a1, a2] at H1
      clear a1 a2 hb3 HOk
      go_wp2_with fail
      refine H1.mono ?_
      rintro e w4 ⟨rfl, O4⟩
      have HO4 : Hid (Own C w w4 C (butOne q (q + 1)) ((q + 1) % 63)) := O4
      clear H1 O4
      go_wp2
      go_loopw [38] (fun c wr => ∃ j : Nat, j + i ≤ 63 ∧ c = .int .i64 j ∧ Hid (Own C w wr C (butOne q (q + 1 + j)) ((q + 1 + j) % 63))) (fun c _ => 63 - (intOf c).toNat)
      case atStart => exact ⟨0, by omega, rfl, HO4⟩
      case round =>
        obtain ⟨j, hj, rfl, HOj⟩ := hrel
        clear HO4
        by_cases hlt3 : j + i < 63
        · have hlt4 : (j : Int) < 63 - (i : Int) := by omega
          have hm63 : (q + 1 + j) % 63 = q + 1 + j := Nat.mod_eq_of_lt (by have := HM.out; omega)
          have H1 := own_assign HOj.out
          rw [hm63] at H1
          obtain ⟨a1, a2, a3, a4⟩ := late_on q (q + 1 + j) (by omega) (by have := HM.out; omega)
          rw [a1, a2, a3, a4] at H1
          clear a1 a2 a3 a4 hm63 HOj
          have hne : (64 + ((q + 1 + j : Nat) : Int) == 64 + (q : Int)) = false := by simp; omega
          have hbd : 64 + ((q + 1 + j : Nat) : Int) ≤ 200 := by have := HM.out; omega
          generalize 64 + ((q + 1 + j : Nat) : Int) = y at H1 hne hbd
          go_wp2_with fail
          refine H1.mono ?_
          rintro e w5 ⟨rfl, O5⟩
          have HO5 : Hid (Own C w w5 C (butOne q (q + 1 + (j + 1))) ((q + 1 + (j + 1)) % 63)) := O5
          clear H1 O5
          go_wp2
          go_roundw
          case rel => exact ⟨j + 1, by omega, by go_num, HO5⟩
          case measure => simp [intOf]; omega
        · have hge : ¬ ((j : Int) < 63 - (i : Int)) := by omega
          have hqj : q + 1 + j = 63 := by have := HM.out; omega
          have H1 := own_assign HOj.out
          rw [hqj] at H1
          replace H1 : Calls Try.prog 14 #[.pointer (some ⟨C, 0, none⟩)] wr fun e w' => e = .returned (.tuple #[.int .i64 (Pm.asT (butOne q 63) 0), .int .i64 (Pm.asE (butOne q 63) 0)]) ∧ Own C w w' C (Pm.asF (butOne q 63) 0) (Pm.asX (butOne q 63) 0) := H1
          obtain ⟨a1, a2⟩ := late_last q hq
          rw [a1, a2] at H1
          clear a1 a2 HOj hqj
          go_wp2_with fail
          refine H1.mono ?_
          rintro e w5 ⟨rfl, O5⟩
          have HB : Hid (Below C w w5) := O5.bel
          clear H1 O5
          go_wp2_with (first | (refine (passign_nil _).mono ?_; rintro e w' ⟨rfl, rfl⟩) | (refine (pclaim_nil _ _).mono ?_; rintro e w' ⟨rfl, rfl⟩) | (refine (pfree_nil _ _).mono ?_; rintro e w' ⟨rfl, rfl⟩) | (refine (phas_nil _ _).mono ?_; rintro e w' ⟨rfl, rfl⟩) | (refine (plist_nil _).mono ?_; rintro e w' ⟨rfl, rfl⟩))
          go_ret
          exact ⟨rfl, by have := HB.out; rw [HC.out] at this; exact this⟩
end Go.Proofs.Ytdojkaliohcckaa
