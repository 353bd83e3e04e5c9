/-
  The walks of the document's in, May and Carries: they answer 'mayB', 'carB'. Nothing that was there is turned.
-/
import Derived.Test.YtidemohpngkedabGreatDoorWaysSmall
namespace Go.Proofs.YtidemohpngkedabGreatDoor
open Go.RowKit
set_option linter.unusedVariables false
set_option maxRecDepth 100000
set_option linter.unusedSimpArgs false

def isin (xs : List Int) (n : Int) : Bool := xs.contains n
theorem isin_hit (xs : List Int) (n : Int) (i : Nat) (hi : i < xs.length) (h : xs.getD i 0 = n) : isin xs n = true := by
  rw [isin, List.contains_iff_mem, ← h, List.getD, List.getElem?_eq_getElem hi]
  exact List.getElem_mem hi
theorem isin_miss (xs : List Int) (n : Int) (h : ∀ i, i < xs.length → xs.getD i 0 ≠ n) : isin xs n = false := by
  unfold isin
  cases hc : xs.contains n
  · rfl
  · rw [List.contains_iff_mem] at hc
    obtain ⟨i, hi, e⟩ := List.mem_iff_getElem.1 hc
    exact absurd (by rw [List.getD, List.getElem?_eq_getElem hi, e]; rfl) (h i hi)

set_option maxHeartbeats 400000 in
set_option maxRecDepth 100000 in
theorem ref_in_any (n : Int) (B m cap : Nat) (xs : List Int) (w : World) (hm : xs.length = m) (hx : m ≤ 10) (hlt : B < w.heap.size) (hc : ∀ i, i < m → w.cell? ⟨B, i, none⟩ = some (.int .i64 (xs.getD i 0))) :
    Calls Tryz.prog 112 #[.int .i64 n, .slice (some ⟨B, 0, none⟩) m cap] w fun e w' => e = .returned (.bool (isin xs n)) ∧ w = w' := by
  have HX : Hid (xs.length = m) := hm
  clear hm
  go_enter Tryz.func112, Tryz.ntmps112
  go_wp2
  go_loop [5] (fun c => ∃ i : Nat, i ≤ m ∧ c = .int .i64 i ∧ ∀ j, j < i → xs.getD j 0 ≠ n) (fun c => m - (intOf c).toNat)
  case atStart => exact ⟨0, Nat.zero_le _, rfl, fun j hj => absurd hj (by omega)⟩
  case round =>
    obtain ⟨i, him, rfl, hno⟩ := hrel
    have HN : Hid (∀ j, j < i → xs.getD j 0 ≠ n) := hno
    clear hno
    by_cases hlt2 : i < m
    · have hci := hc i hlt2
      have HC : Hid (∀ i, i < m → w.cell? ⟨B, i, none⟩ = some (.int .i64 (xs.getD i 0))) := hc
      clear hc
      obtain ⟨x, hxx⟩ : ∃ x, x = xs.getD i 0 := ⟨_, rfl⟩
      rw [← hxx] at hci
      have HXX : Hid (x = xs.getD i 0) := hxx
      clear hxx
      by_cases he : x = n
      · have te : (x == n) = true := by simpa using he
        have HE : Hid (x = n) := he
        clear he
        go_wp2
        go_ret
        exact ⟨ret_bool (isin_hit xs n i (by rw [HX.out]; exact hlt2) (HXX.out.symm.trans HE.out)).symm, rfl⟩
      · have te : (x == n) = false := by simpa using he
        have HE : Hid (x ≠ n) := he
        clear he
        go_wp2
        go_round
        case rel =>
          refine ⟨i + 1, by omega, by go_num, fun j hj => ?_⟩
          by_cases hji : j = i
          · subst hji; rw [← HXX.out]; exact HE.out
          · exact HN.out j (by omega)
        case measure => simp [intOf]; omega
    · have e : i = m := by omega
      subst e
      go_wp2
      go_ret
      exact ⟨ret_bool (isin_miss xs n (fun j hj => HN.out j (by rw [HX.out] at hj; exact hj))).symm, rfl⟩

theorem may_lists (k : Int) (c : Bool) : (isin [1, 2, 3] k || (isin [0, 4, 6, 7] k && c) || (isin [5, 8, 9] k && !c)) = Xm.mayB k c := by
  by_cases h : Cm.known k
  · obtain ⟨n, rfl⟩ : ∃ n : Nat, k = (n : Int) := ⟨k.toNat, by have : 0 ≤ k := h.1; omega⟩
    have hn : n < 10 := by have : (n : Int) ≤ 9 := h.2; omega
    have : ∀ n : Nat, n < 10 → ∀ c : Bool, (isin [1, 2, 3] (n : Int) || (isin [0, 4, 6, 7] (n : Int) && c) || (isin [5, 8, 9] (n : Int) && !c)) = Xm.mayB (n : Int) c := by decide
    exact this n hn c
  · rw [Xm.may_out c h]
    have h' : ¬ (0 ≤ k ∧ k ≤ 9) := h
    have e1 : isin [1, 2, 3] k = false := by simp [isin]; omega
    have e2 : isin [0, 4, 6, 7] k = false := by simp [isin]; omega
    have e3 : isin [5, 8, 9] k = false := by simp [isin]; omega
    rw [e1, e2, e3]; rfl

theorem row3 (w : World) (x y z : Int) : ∀ i, i < 3 → (w.alloc (.cells #[.int .i64 x, .int .i64 y, .int .i64 z] 3)).cell? ⟨w.heap.size, i, none⟩ = some (.int .i64 ([x, y, z].getD i 0)) := by
  intro i hi
  have : i = 0 ∨ i = 1 ∨ i = 2 := by omega
  rcases this with rfl | rfl | rfl <;> simp
theorem row4 (w : World) (x y z u : Int) : ∀ i, i < 4 → (w.alloc (.cells #[.int .i64 x, .int .i64 y, .int .i64 z, .int .i64 u] 3)).cell? ⟨w.heap.size, i, none⟩ = some (.int .i64 ([x, y, z, u].getD i 0)) := by
  intro i hi
  have : i = 0 ∨ i = 1 ∨ i = 2 ∨ i = 3 := by omega
  rcases this with rfl | rfl | rfl | rfl <;> simp

set_option maxHeartbeats 400000 in
set_option maxRecDepth 100000 in
theorem ref_may_any (k : Int) (c : Bool) (w : World) :
    Calls Tryz.prog 68 #[.int .i64 k, .bool c] w fun e w' => e = .returned (.bool (Xm.mayB k c)) ∧ Below w.heap.size w w' := by
  have HM := may_lists k c
  have s1 : (w.alloc (.cells #[.int .i64 1, .int .i64 2, .int .i64 3] 3)).heap.size = w.heap.size + 1 := by simp
  have s2 : ((w.alloc (.cells #[.int .i64 1, .int .i64 2, .int .i64 3] 3)).alloc (.cells #[.int .i64 0, .int .i64 4, .int .i64 6, .int .i64 7] 3)).heap.size = w.heap.size + 1 + 1 := by simp
  have i1 := ref_in_any k w.heap.size 3 3 [1, 2, 3] _ rfl (by decide) (by simp) (row3 w 1 2 3)
  have i2 := ref_in_any k _ 4 4 [0, 4, 6, 7] _ rfl (by decide) (by simp) (row4 (w.alloc (.cells #[.int .i64 1, .int .i64 2, .int .i64 3] 3)) 0 4 6 7)
  have i3 := ref_in_any k _ 3 3 [5, 8, 9] _ rfl (by decide) (by simp) (row3 ((w.alloc (.cells #[.int .i64 1, .int .i64 2, .int .i64 3] 3)).alloc (.cells #[.int .i64 0, .int .i64 4, .int .i64 6, .int .i64 7] 3)) 5 8 9)
  have hq1 : Below w.heap.size w (w.alloc (.cells #[.int .i64 1, .int .i64 2, .int .i64 3] 3)) := (Below.refl _ _).alloc (Nat.le_refl _) _
  have hq3 := (hq1.alloc hq1.size (.cells #[.int .i64 0, .int .i64 4, .int .i64 6, .int .i64 7] 3)).alloc (by rw [s2]; omega) (.cells #[.int .i64 5, .int .i64 8, .int .i64 9] 3)
  rw [s1] at i2
  rw [s2] at i3
  generalize isin [1, 2, 3] k = b1 at i1 HM
  generalize isin [0, 4, 6, 7] k = b2 at i2 HM
  generalize isin [5, 8, 9] k = b3 at i3 HM
  rw [← HM]
  clear HM s1 s2 hq1
  go_enter Tryz.func68, Tryz.ntmps68
  go_wp2_with fail
  refine i1.mono ?_
  rintro e w' ⟨rfl, rfl⟩
  clear i1
  go_wp2_with fail
  refine i2.mono ?_
  rintro e w' ⟨rfl, rfl⟩
  clear i2
  go_wp2_with fail
  refine i3.mono ?_
  rintro e w' ⟨rfl, rfl⟩
  clear i3
  cases b1 <;> cases b2 <;> cases b3 <;> cases c
  all_goals
    go_wp2
    go_ret
    exact ⟨ret_bool (by decide), hq3⟩

set_option maxHeartbeats 400000 in
theorem ref_carries_any (k n : Int) (w : World) :
    Calls Tryz.prog 69 #[.int .i64 k, .int .i64 n] w fun e w' => e = .returned (.bool (Xm.carB k n)) ∧ w = w' := by
  by_cases hk : Cm.known k
  · obtain ⟨hk0, hk9⟩ := hk
    by_cases h0 : k = 0 ∨ k = 6
    · have HC : Hid (Xm.carB k n = decide (0 ≤ n ∧ n ≤ 260)) := by show _ = _; rw [Xm.carB, if_pos h0]
      rcases h0 with rfl | rfl
      all_goals
        go_enter Tryz.func69, Tryz.ntmps69
        go_wp2
        all_goals go_ret
        all_goals exact ⟨ret_bool (by rw [HC.out, Bool.eq_iff_iff]; simp; try omega), rfl⟩
    · by_cases h9 : k = 9
      · have HC : Hid (Xm.carB k n = decide (n = 5)) := by show _ = _; rw [Xm.carB, if_neg h0, if_pos h9]
        subst h9
        clear h0
        go_enter Tryz.func69, Tryz.ntmps69
        go_wp2
        all_goals go_ret
        all_goals exact ⟨ret_bool (by rw [HC.out, Bool.eq_iff_iff]; simp; try omega), rfl⟩
      · have HC : Hid (Xm.carB k n = decide (n = 0)) := by show _ = _; rw [Xm.carB, if_neg h0, if_neg h9, Cm.kn_in ⟨hk0, hk9⟩]; simp
        have t0 : (k == 0) = false := by simp; omega
        have t6 : (k == 6) = false := by simp; omega
        have t9 : (k == 9) = false := by simp; omega
        clear h0 h9
        go_enter Tryz.func69, Tryz.ntmps69
        go_wp2
        all_goals go_ret
        all_goals exact ⟨ret_bool (by rw [HC.out, Bool.eq_iff_iff]; simp; try omega), rfl⟩
  · have HC : Hid (Xm.carB k n = false) := by
      show _ = _
      have h' : ¬ (0 ≤ k ∧ k ≤ 9) := hk
      rw [Xm.carB, if_neg (by omega), if_neg (by omega), Cm.kn_out hk]; rfl
    have h' : ¬ (0 ≤ k ∧ k ≤ 9) := hk
    clear hk
    rcases Int.lt_or_le k 0 with h1 | h1
    · clear h'
      go_enter Tryz.func69, Tryz.ntmps69
      go_wp2
      go_ret
      exact ⟨ret_bool HC.out.symm, rfl⟩
    · have h2 : 10 ≤ k := by omega
      clear h'
      go_enter Tryz.func69, Tryz.ntmps69
      go_wp2
      go_ret
      exact ⟨ret_bool HC.out.symm, rfl⟩
end Go.Proofs.YtidemohpngkedabGreatDoor
