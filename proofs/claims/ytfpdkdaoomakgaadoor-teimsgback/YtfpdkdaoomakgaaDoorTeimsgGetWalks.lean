/-
  The walk of teimsg.Get: it answers 'getRes'. Nothing that was there is turned.
-/
import Derived.Test.YtfpdkdaoomakgaaDoorTeimsgSmall
import Derived.Test.YtfpdkdaoomakgaaDoorFieldWalks
import Derived.Deep.RegionWith
namespace Go.Proofs.YtfpdkdaoomakgaaDoor
open Go.RowKit
set_option linter.unusedVariables false
set_option linter.unusedSimpArgs false

/-- what Get hands back -/
def msgV (m : Int × Int × Int) : Value := .agg #[.int .i64 m.1, .int .i64 m.2.1, .int .i64 m.2.2]
def tgetV (r : (Int × Int × Int) × Int) : Value := .tuple #[msgV r.1, .int .i64 r.2]

theorem set3_below {w w1 : World} (hq : Below w.heap.size w w1) (x y z : Value) : Below w.heap.size w (((w1.setCell ⟨w.heap.size, 0, none⟩ x).setCell ⟨w.heap.size, 1, none⟩ y).setCell ⟨w.heap.size, 2, none⟩ z) :=
  ((hq.setCell (p := ⟨w.heap.size, 0, none⟩) (Nat.le_refl _) _).setCell (p := ⟨w.heap.size, 1, none⟩) (Nat.le_refl _) _).setCell (p := ⟨w.heap.size, 2, none⟩) (Nat.le_refl _) _

set_option maxHeartbeats 1000000 in
set_option maxRecDepth 100000 in
theorem tget_short (s : ByteArray) (w : World) (hs : s.size ≤ 140737488355328) (h : s.size < 5) :
    Calls Tryd.prog 7 #[.string s] w fun e w' => e = .returned (tgetV (Tm.getRes s)) ∧ Below w.heap.size w w' := by
  have HG : Hid (Tm.getRes s = ((0, 0, 0), 3)) := Tm.get_short s h
  go_enter Tryd.func7, Tryd.ntmps7
  go_wp2
  exact bodyPost_ret (v := .tuple #[.agg #[.int .i64 0, .int .i64 0, .int .i64 0], .int .i64 3]) (by simp [results, Tryd.results7, go_sem]) rfl ⟨by rw [HG.out]; rfl, (Below.refl _ _).alloc (Nat.le_refl _) _⟩

set_option maxHeartbeats 1000000 in
set_option maxRecDepth 100000 in
theorem tget_long (s : ByteArray) (w : World) (hs : s.size ≤ 140737488355328) (h : 5 < s.size) :
    Calls Tryd.prog 7 #[.string s] w fun e w' => e = .returned (tgetV (Tm.getRes s)) ∧ Below w.heap.size w w' := by
  have HG : Hid (Tm.getRes s = ((0, 0, 0), 5)) := Tm.get_long s h
  go_enter Tryd.func7, Tryd.ntmps7
  go_wp2
  exact bodyPost_ret (v := .tuple #[.agg #[.int .i64 0, .int .i64 0, .int .i64 0], .int .i64 5]) (by simp [results, Tryd.results7, go_sem]) rfl ⟨by rw [HG.out]; rfl, (Below.refl _ _).alloc (Nat.le_refl _) _⟩

set_option maxHeartbeats 1000000 in
set_option maxRecDepth 100000 in
theorem tget_five (s : ByteArray) (w : World) (h : s.size = 5) :
    Calls Tryd.prog 7 #[.string s] w fun e w' => e = .returned (tgetV (Tm.getRes s)) ∧ Below w.heap.size w w' := by
  have h0 : (0 : Int) < (s.size : Int) := by omega
  have h1 : (1 : Int) < (s.size : Int) := by omega
  have h2 : (2 : Int) < (s.size : Int) := by omega
  have h3 : (3 : Int) < (s.size : Int) := by omega
  have h4 : (4 : Int) < (s.size : Int) := by omega
  have n0 : 0 < s.size := by omega
  have n1 : 1 < s.size := by omega
  have n2 : 2 < s.size := by omega
  have n3 : 3 < s.size := by omega
  have n4 : 4 < s.size := by omega
  have hs : s.size ≤ 5 := by omega
  have b0 : 0 ≤ (s[0].toNat : Int) ∧ (s[0].toNat : Int) ≤ 255 := by have := s[0].toNat_lt; omega
  have b1 : 0 ≤ (s[1].toNat : Int) ∧ (s[1].toNat : Int) ≤ 255 := by have := s[1].toNat_lt; omega
  have b2 : 0 ≤ (s[2].toNat : Int) ∧ (s[2].toNat : Int) ≤ 255 := by have := s[2].toNat_lt; omega
  have b3 : 0 ≤ (s[3].toNat : Int) ∧ (s[3].toNat : Int) ≤ 255 := by have := s[3].toNat_lt; omega
  have b4 : 0 ≤ (s[4].toNat : Int) ∧ (s[4].toNat : Int) ≤ 255 := by have := s[4].toNat_lt; omega
  have HG : Hid _ := Tm.get_at s h
  go_enter Tryd.func7, Tryd.ntmps7
  go_wp2
  go_region
  obtain ⟨x, hx⟩ : ∃ x : Int, x = (s[3].toNat : Int) := ⟨_, rfl⟩
  obtain ⟨y, hy⟩ : ∃ y : Int, y = (s[4].toNat : Int) := ⟨_, rfl⟩
  rw [← hx] at b3 HG
  rw [← hy] at b4 HG
  rw [← hx, ← hy]
  clear hx hy h3 h4 n3 n4
  obtain ⟨x0, x1⟩ := b3
  obtain ⟨y0, y1⟩ := b4
  have HJ := Tm.or_wrap (s[1].toNat : Int) (s[2].toNat : Int) b1.1 b1.2 b2.1 b2.2
  by_cases hz : (s[0].toNat : Int) = 15
  · have tz : ((s[0].toNat : Int) != 15) = false := by simp [hz]
    by_cases hk : Tm.known x
    · by_cases hm : y % 2 = 1
      · have tm : (y % 2 != 1) = false := by simp [hm]
        have HG2 : Hid (Tm.getRes s = ((x, (256 : Int) * (s[1].toNat : Int) + (s[2].toNat : Int), y / 2), 0)) := by show _ = _; rw [HG.out, if_neg (by rintro (h | h | h) <;> first | exact h hz | exact h hk | exact h hm)]
        clear HG hz hm
        go_wp2_with fail
        refine (tknown_any x _).mono ?_
        rintro e w' ⟨rfl, rfl⟩
        rw [Tm.kn_in hk]
        go_wp2_with fail
        refine (field_any y 0 1 _ y0 y1 (by decide)).mono ?_
        rintro e w' ⟨rfl, n1, rfl⟩
        rw [Am.fld_01]
        go_wp2
        go_region_with (go_at_call 15; refine (field_any y 1 7 _ y0 y1 (by decide)).mono ?_; rintro e w' ⟨rfl, n5, rfl⟩)
        all_goals
          rw [Am.fld_17 y y0 y1]
          go_wp2
          exact bodyPost_ret (v := .tuple #[.agg #[.int .i64 x, .int .i64 ((256 : Int) * (s[1].toNat : Int) + (s[2].toNat : Int)), .int .i64 (y / 2)], .int .i64 0]) (by simp [results, Tryd.results7, go_sem]) rfl ⟨by rw [HG2.out]; rfl, set3_below (below_drewN ((Below.refl _ _).alloc (Nat.le_refl _) _) _) _ _ _⟩
      · have tm : (y % 2 != 1) = true := by simp [hm]
        have HG2 : Hid (Tm.getRes s = ((0, 0, 0), 4)) := by show _ = _; rw [HG.out, if_pos (Or.inr (Or.inr hm))]
        clear HG hz hm HJ
        go_wp2_with fail
        refine (tknown_any x _).mono ?_
        rintro e w' ⟨rfl, rfl⟩
        rw [Tm.kn_in hk]
        go_wp2_with fail
        refine (field_any y 0 1 _ y0 y1 (by decide)).mono ?_
        rintro e w' ⟨rfl, n1, rfl⟩
        rw [Am.fld_01]
        go_wp2
        exact bodyPost_ret (v := .tuple #[.agg #[.int .i64 0, .int .i64 0, .int .i64 0], .int .i64 4]) (by simp [results, Tryd.results7, go_sem]) rfl ⟨by rw [HG2.out]; rfl, set3_below (below_drewN ((Below.refl _ _).alloc (Nat.le_refl _) _) _) _ _ _⟩
    · have HG2 : Hid (Tm.getRes s = ((0, 0, 0), 4)) := by show _ = _; rw [HG.out, if_pos (Or.inr (Or.inl hk))]
      clear HG hz HJ
      go_wp2_with fail
      refine (tknown_any x _).mono ?_
      rintro e w' ⟨rfl, rfl⟩
      rw [Tm.kn_out hk]
      clear hk
      go_wp2
      exact bodyPost_ret (v := .tuple #[.agg #[.int .i64 0, .int .i64 0, .int .i64 0], .int .i64 4]) (by simp [results, Tryd.results7, go_sem]) rfl ⟨by rw [HG2.out]; rfl, ((Below.refl _ _).alloc (Nat.le_refl _) _).drew⟩
  · have tz : ((s[0].toNat : Int) != 15) = true := by simpa using hz
    have HG2 : Hid (Tm.getRes s = ((0, 0, 0), 4)) := by show _ = _; rw [HG.out, if_pos (Or.inl hz)]
    clear HG hz HJ
    go_wp2
    exact bodyPost_ret (v := .tuple #[.agg #[.int .i64 0, .int .i64 0, .int .i64 0], .int .i64 4]) (by simp [results, Tryd.results7, go_sem]) rfl ⟨by rw [HG2.out]; rfl, ((Below.refl _ _).alloc (Nat.le_refl _) _).drew⟩

theorem tget_any (s : ByteArray) (w : World) (hs : s.size ≤ 140737488351232) :
    Calls Tryd.prog 7 #[.string s] w fun e w' => e = .returned (tgetV (Tm.getRes s)) ∧ Below w.heap.size w w' := by
  by_cases h : s.size < 5
  · exact tget_short s w (by omega) h
  · by_cases h2 : 5 < s.size
    · exact tget_long s w (by omega) h2
    · exact tget_five s w (by omega)
end Go.Proofs.YtfpdkdaoomakgaaDoor
