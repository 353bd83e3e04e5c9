/-
  The walk of the document's Get of layer 7: it answers 'getRes'. Nothing that was there is turned.
-/
import Derived.Test.YtfpdkdaoomakgaaTeimsgGetWalks
import Derived.BigRegion
namespace Go.Proofs.Ytfpdkdaoomakgaa
open Go.RowKit
set_option linter.unusedVariables false
set_option linter.unusedSimpArgs false

set_option maxHeartbeats 1000000 in
set_option maxRecDepth 100000 in
theorem ref_tget_short (s : ByteArray) (w : World) (hs : s.size ≤ 140737488355328) (h : s.size < 5) :
    Calls Try.prog 18 #[.string s] w fun e w' => e = .returned (tgetV (Tm.getRes s)) ∧ Below w.heap.size w w' := by
  have HG : Hid (Tm.getRes s = ((0, 0, 0), 3)) := Tm.get_short s h
  go_enter Try.func18, Try.ntmps18
  go_wp2
  exact bodyPost_ret (v := .tuple #[.agg #[.int .i64 0, .int .i64 0, .int .i64 0], .int .i64 3]) (by simp [results, Try.results18, go_sem]) rfl ⟨by rw [HG.out]; rfl, (Below.refl _ _).alloc (Nat.le_refl _) _⟩

set_option maxHeartbeats 1000000 in
set_option maxRecDepth 100000 in
theorem ref_tget_long (s : ByteArray) (w : World) (hs : s.size ≤ 140737488355328) (h : 5 < s.size) :
    Calls Try.prog 18 #[.string s] w fun e w' => e = .returned (tgetV (Tm.getRes s)) ∧ Below w.heap.size w w' := by
  have HG : Hid (Tm.getRes s = ((0, 0, 0), 5)) := Tm.get_long s h
  go_enter Try.func18, Try.ntmps18
  go_wp2
  exact bodyPost_ret (v := .tuple #[.agg #[.int .i64 0, .int .i64 0, .int .i64 0], .int .i64 5]) (by simp [results, Try.results18, go_sem]) rfl ⟨by rw [HG.out]; rfl, (Below.refl _ _).alloc (Nat.le_refl _) _⟩

set_option maxHeartbeats 1000000 in
set_option maxRecDepth 100000 in
theorem ref_tget_five (s : ByteArray) (w : World) (h : s.size = 5) :
    Calls Try.prog 18 #[.string s] w fun e w' => e = .returned (tgetV (Tm.getRes s)) ∧ Below w.heap.size w w' := by
  have h0 : (0 : Int) < (s.size : Int) := by omega
  have h1 : (1 : Int) < (s.size : Int) := by omega
  have h2 : (2 : Int) < (s.size : Int) := by omega
  have h3 : (3 : Int) < (s.size : Int) := by omega
  have h4 : (4 : Int) < (s.size : Int) := by omega
  have n0 : 0 < s.size := by omega
  have n1 : 1 < s.size := by omega
  have n2 : 2 < s.size := by omega
  have n3 : 3 < s.size := by omega
  have n4 : 4 < s.size := by omega
  have hs : s.size ≤ 5 := by omega
  have b0 : 0 ≤ (s[0].toNat : Int) ∧ (s[0].toNat : Int) ≤ 255 := by have := s[0].toNat_lt; omega
  have b1 : 0 ≤ (s[1].toNat : Int) ∧ (s[1].toNat : Int) ≤ 255 := by have := s[1].toNat_lt; omega
  have b2 : 0 ≤ (s[2].toNat : Int) ∧ (s[2].toNat : Int) ≤ 255 := by have := s[2].toNat_lt; omega
  have b3 : 0 ≤ (s[3].toNat : Int) ∧ (s[3].toNat : Int) ≤ 255 := by have := s[3].toNat_lt; omega
  have b4 : 0 ≤ (s[4].toNat : Int) ∧ (s[4].toNat : Int) ≤ 255 := by have := s[4].toNat_lt; omega
  have HG : Hid _ := Tm.get_at s h
  by_cases hz : (s[0].toNat : Int) = 15
  · have tz : ((s[0].toNat : Int) != 15) = false := by simp [hz]
    by_cases hk : Tm.known (s[3].toNat : Int)
    · obtain ⟨k0, k1⟩ := hk
      by_cases hm : (s[4].toNat : Int) % 2 = 1
      · have tm : ((s[4].toNat : Int) % 2 == 0) = false := by simp; omega
        have HG2 : Hid (Tm.getRes s = (((s[3].toNat : Int), (256 : Int) * (s[1].toNat : Int) + (s[2].toNat : Int), (s[4].toNat : Int) / 2), 0)) := by show _ = _; rw [HG.out, if_neg (by rintro (h | h | h) <;> first | exact h hz | exact h ⟨k0, k1⟩ | exact h hm)]
        clear HG hz hm
        go_enter Try.func18, Try.ntmps18
        go_wp2
        go_region
        go_wp2
        exact bodyPost_ret (v := .tuple #[.agg #[.int .i64 (s[3].toNat : Int), .int .i64 ((256 : Int) * (s[1].toNat : Int) + (s[2].toNat : Int)), .int .i64 ((s[4].toNat : Int) / 2)], .int .i64 0]) (by simp [results, Try.results18, go_sem]) rfl ⟨by rw [HG2.out]; rfl, ((Below.refl _ _).alloc (Nat.le_refl _) _).drew⟩
      · have tm : ((s[4].toNat : Int) % 2 == 0) = true := by simp; omega
        have HG2 : Hid (Tm.getRes s = ((0, 0, 0), 4)) := by show _ = _; rw [HG.out, if_pos (Or.inr (Or.inr hm))]
        clear HG hz hm
        go_enter Try.func18, Try.ntmps18
        go_wp2
        exact bodyPost_ret (v := .tuple #[.agg #[.int .i64 0, .int .i64 0, .int .i64 0], .int .i64 4]) (by simp [results, Try.results18, go_sem]) rfl ⟨by rw [HG2.out]; rfl, (Below.refl _ _).alloc (Nat.le_refl _) _⟩
    · have HG2 : Hid (Tm.getRes s = ((0, 0, 0), 4)) := by show _ = _; rw [HG.out, if_pos (Or.inr (Or.inl hk))]
      have hk' : ¬ (1 ≤ (s[3].toNat : Int) ∧ (s[3].toNat : Int) ≤ 7) := hk
      clear HG hz hk
      go_enter Try.func18, Try.ntmps18
      go_wp2
      all_goals first | (exfalso; omega) | skip
      all_goals exact bodyPost_ret (v := .tuple #[.agg #[.int .i64 0, .int .i64 0, .int .i64 0], .int .i64 4]) (by simp [results, Try.results18, go_sem]) rfl ⟨by rw [HG2.out]; rfl, (Below.refl _ _).alloc (Nat.le_refl _) _⟩
  · have tz : ((s[0].toNat : Int) != 15) = true := by simpa using hz
    have HG2 : Hid (Tm.getRes s = ((0, 0, 0), 4)) := by show _ = _; rw [HG.out, if_pos (Or.inl hz)]
    clear HG hz
    go_enter Try.func18, Try.ntmps18
    go_wp2
    exact bodyPost_ret (v := .tuple #[.agg #[.int .i64 0, .int .i64 0, .int .i64 0], .int .i64 4]) (by simp [results, Try.results18, go_sem]) rfl ⟨by rw [HG2.out]; rfl, (Below.refl _ _).alloc (Nat.le_refl _) _⟩

theorem ref_tget_any (s : ByteArray) (w : World) (hs : s.size ≤ 140737488351232) :
    Calls Try.prog 18 #[.string s] w fun e w' => e = .returned (tgetV (Tm.getRes s)) ∧ Below w.heap.size w w' := by
  by_cases h : s.size < 5
  · exact ref_tget_short s w (by omega) h
  · by_cases h2 : 5 < s.size
    · exact ref_tget_long s w (by omega) h2
    · exact ref_tget_five s w (by omega)
end Go.Proofs.Ytfpdkdaoomakgaa
