/-
  The walks of addr.Get, and the document's: both answer 'getRes'. Nothing that was there is turned.
-/
import Derived.Test.YtfpdkdaoomakgaaDoorFieldWalks
import Derived.Test.YtfpdkdaoomakgaaDoorAddrMath
import Derived.Deep.RegionWith
namespace Go.Proofs.YtfpdkdaoomakgaaDoor
open Go.RowKit
set_option linter.unusedVariables false
set_option linter.unusedSimpArgs false

theorem get_short (s : ByteArray) (h : s.size < 2) : Am.getRes s = ((0, 0, false), 3) := by
  rw [Am.getRes, Am.getN, if_pos (by rw [Bm.nums_length]; exact h)]
theorem get_at (s : ByteArray) (h : 2 ≤ s.size) : Am.getRes s = if (s[0].toNat : Int) % 2 ≠ 0 ∨ (s[1].toNat : Int) % 2 ≠ 1 then (((0 : Int), (0 : Int), false), (4 : Int)) else (((s[0].toNat : Int) / 4, (s[1].toNat : Int) / 2, decide ((s[0].toNat : Int) / 2 % 2 = 1)), 0) := by
  have e0 : (Bm.nums s).getD 0 0 = (s[0].toNat : Int) := by
    rw [List.getD, List.getElem?_eq_getElem (by rw [Bm.nums_length]; omega), Bm.nums_get s 0 (by omega)]; rfl
  have e1 : (Bm.nums s).getD 1 0 = (s[1].toNat : Int) := by
    rw [List.getD, List.getElem?_eq_getElem (by rw [Bm.nums_length]; omega), Bm.nums_get s 1 (by omega)]; rfl
  rw [Am.getRes, Am.getN, if_neg (by rw [Bm.nums_length]; omega), e0, e1]

theorem below3 {w w1 : World} (hq : Below w.heap.size w w1) (x y z : Value) : Below w.heap.size w (((w1.setCell ⟨w.heap.size, 0, none⟩ x).setCell ⟨w.heap.size, 1, none⟩ y).setCell ⟨w.heap.size, 2, none⟩ z) :=
  ((hq.setCell (p := ⟨w.heap.size, 0, none⟩) (Nat.le_refl _) _).setCell (p := ⟨w.heap.size, 1, none⟩) (Nat.le_refl _) _).setCell (p := ⟨w.heap.size, 2, none⟩) (Nat.le_refl _) _

set_option maxHeartbeats 1000000 in
theorem get_any (s : ByteArray) (w : World) (hs : s.size ≤ 140737488355328) :
    Calls Tryd.prog 24 #[.string s] w fun e w' => e = .returned (.tuple #[.agg #[.int .i64 (Am.getRes s).1.1, .int .i64 (Am.getRes s).1.2.1, .bool (Am.getRes s).1.2.2], .int .i64 (Am.getRes s).2]) ∧ Below w.heap.size w w' := by
  by_cases h2 : s.size < 2
  · have HG : Hid (Am.getRes s = ((0, 0, false), 3)) := get_short s h2
    go_enter Tryd.func24, Tryd.ntmps24
    go_wp2
    exact bodyPost_ret (v := .tuple #[.agg #[.int .i64 0, .int .i64 0, .bool false], .int .i64 3]) (by simp [results, Tryd.results24, go_sem]) rfl ⟨by rw [HG.out], (Below.refl _ _).alloc (Nat.le_refl _) _⟩
  · have h0 : 0 < s.size := by omega
    have h1 : 1 < s.size := by omega
    have h1' : (1 : Int) < (s.size : Int) := by omega
    have h0' : (0 : Int) < (s.size : Int) := by omega
    have b0 : 0 ≤ (s[0].toNat : Int) ∧ (s[0].toNat : Int) ≤ 255 := by have := s[0].toNat_lt; omega
    have b1 : 0 ≤ (s[1].toNat : Int) ∧ (s[1].toNat : Int) ≤ 255 := by have := s[1].toNat_lt; omega
    have HG : Hid (Am.getRes s = if (s[0].toNat : Int) % 2 ≠ 0 ∨ (s[1].toNat : Int) % 2 ≠ 1 then (((0 : Int), (0 : Int), false), (4 : Int)) else (((s[0].toNat : Int) / 4, (s[1].toNat : Int) / 2, decide ((s[0].toNat : Int) / 2 % 2 = 1)), 0)) := get_at s (by omega)
    go_enter Tryd.func24, Tryd.ntmps24
    go_wp2
    go_region
    obtain ⟨x, hx⟩ : ∃ x : Int, x = (s[0].toNat : Int) := ⟨_, rfl⟩
    obtain ⟨y, hy⟩ : ∃ y : Int, y = (s[1].toNat : Int) := ⟨_, rfl⟩
    rw [← hx] at b0 HG
    rw [← hy] at b1 HG
    rw [← hx, ← hy]
    clear hx hy h1' h0' h0 h1 hs h2
    obtain ⟨x0, x1⟩ := b0
    obtain ⟨y0, y1⟩ := b1
    by_cases hx : x % 2 = 0
    · have tx : (x % 2 != 0) = false := by simp [hx]
      by_cases hy : y % 2 = 1
      · have ty : (y % 2 != 1) = false := by simp [hy]
        have HG2 : Hid (Am.getRes s = ((x / 4, y / 2, x / 2 % 2 == 1), 0)) := by show _ = _; rw [HG.out, if_neg (by omega)]; rfl
        clear HG hx hy
        go_wp2_with fail
        refine (field_any x 0 1 _ x0 x1 (by decide)).mono ?_
        rintro e w' ⟨rfl, n1, rfl⟩
        rw [Am.fld_01]
        go_wp2_with fail
        refine (field_any y 0 1 _ y0 y1 (by decide)).mono ?_
        rintro e w' ⟨rfl, n2, rfl⟩
        rw [Am.fld_01]
        go_wp2_with fail
        refine (field_any x 2 6 _ x0 x1 (by decide)).mono ?_
        rintro e w' ⟨rfl, n3, rfl⟩
        rw [Am.fld_26 x x0 x1]
        go_wp2_with fail
        refine (field_any y 1 7 _ y0 y1 (by decide)).mono ?_
        rintro e w' ⟨rfl, n4, rfl⟩
        rw [Am.fld_17 y y0 y1]
        go_wp2
        go_region_with (go_at_call 15; refine (field_any x 1 1 _ x0 x1 (by decide)).mono ?_; rintro e w' ⟨rfl, n5, rfl⟩)
        all_goals
          rw [Am.fld_11]
          go_wp2
          exact bodyPost_ret (v := .tuple #[.agg #[.int .i64 (x / 4), .int .i64 (y / 2), .bool (x / 2 % 2 == 1)], .int .i64 0]) (by simp [results, Tryd.results24, go_sem]) rfl ⟨by rw [HG2.out], below3 (below_drewN ((below_drewN ((Below.refl _ _).alloc (Nat.le_refl _) _) _).alloc (by simp) _) _) _ _ _⟩
      · have ty : (y % 2 != 1) = true := by simp [hy]
        have HG2 : Hid (Am.getRes s = ((0, 0, false), 4)) := by show _ = _; rw [HG.out, if_pos (Or.inr hy)]
        clear HG hx hy
        go_wp2_with fail
        refine (field_any x 0 1 _ x0 x1 (by decide)).mono ?_
        rintro e w' ⟨rfl, n1, rfl⟩
        rw [Am.fld_01]
        go_wp2_with fail
        refine (field_any y 0 1 _ y0 y1 (by decide)).mono ?_
        rintro e w' ⟨rfl, n2, rfl⟩
        rw [Am.fld_01]
        go_wp2
        exact bodyPost_ret (v := .tuple #[.agg #[.int .i64 0, .int .i64 0, .bool false], .int .i64 4]) (by simp [results, Tryd.results24, go_sem]) rfl ⟨by rw [HG2.out], below3 (below_drewN ((Below.refl _ _).alloc (Nat.le_refl _) _) _) _ _ _⟩
    · have tx : (x % 2 != 0) = true := by simp [hx]
      have HG2 : Hid (Am.getRes s = ((0, 0, false), 4)) := by show _ = _; rw [HG.out, if_pos (Or.inl hx)]
      clear HG hx
      go_wp2_with fail
      refine (field_any x 0 1 _ x0 x1 (by decide)).mono ?_
      rintro e w' ⟨rfl, n1, rfl⟩
      rw [Am.fld_01]
      go_wp2
      exact bodyPost_ret (v := .tuple #[.agg #[.int .i64 0, .int .i64 0, .bool false], .int .i64 4]) (by simp [results, Tryd.results24, go_sem]) rfl ⟨by rw [HG2.out], below3 (below_drewN ((Below.refl _ _).alloc (Nat.le_refl _) _) _) _ _ _⟩
end Go.Proofs.YtfpdkdaoomakgaaDoor
