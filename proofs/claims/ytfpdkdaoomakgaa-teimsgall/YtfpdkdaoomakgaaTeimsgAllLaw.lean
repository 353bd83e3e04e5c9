/-
  The walk of the law TeimsgAll: it returns true.
-/
import Derived.Test.YtfpdkdaoomakgaaTeimsgWakes
import Derived.Test.YtfpdkdaoomakgaaTeimsgGetWalks
namespace Go.Proofs.Ytfpdkdaoomakgaa
open Go.RowKit
set_option linter.unusedVariables false
set_option linter.unusedSimpArgs false

theorem and127 (x : Int) (h0 : 0 ≤ x) (h1 : x ≤ 255) : 0 ≤ bits .and .u8 x 127 ∧ bits .and .u8 x 127 ≤ 127 := by
  obtain ⟨n, rfl⟩ := Int.eq_ofNat_of_zero_le h0
  have e : bits .and .u8 (n : Int) 127 = ((n &&& 127 : Nat) : Int) := by
    rw [Go.u8_and _ _ h0 (by omega) (by omega) (by omega), Int.toNat_natCast]; rfl
  have := Nat.and_le_right (n := n) (m := 127)
  rw [e]; omega

/-- how many types below m the network sends -/
def fromN (m : Nat) : Int := [(0 : Int), 0, 0, 1, 2, 3, 3, 4, 4].getD m 0
theorem fromN_bd (m : Nat) : 0 ≤ fromN m ∧ fromN m ≤ 4 := by
  by_cases h : m < 9
  · have : ∀ m : Nat, m < 9 → 0 ≤ fromN m ∧ fromN m ≤ 4 := by decide
    exact this m h
  · have e : fromN m = 0 := by
      unfold fromN; rw [List.getD, List.getElem?_eq_none (by simp; omega)]; rfl
    rw [e]; decide
theorem fromN_in (m : Nat) (h0 : 1 ≤ m) (h : m < 8) (hn : Tm.net (m : Int) = true) : fromN (m + 1) = fromN m + 1 := by
  have : ∀ m : Nat, m < 8 → 1 ≤ m → Tm.net (m : Int) = true → fromN (m + 1) = fromN m + 1 := by decide
  exact this m h h0 hn
theorem fromN_out (m : Nat) (h0 : 1 ≤ m) (h : m < 8) (hn : Tm.net (m : Int) = false) : fromN (m + 1) = fromN m := by
  have : ∀ m : Nat, m < 8 → 1 ≤ m → Tm.net (m : Int) = false → fromN (m + 1) = fromN m := by decide
  exact this m h h0 hn

set_option maxHeartbeats 1000000 in
set_option maxRecDepth 100000 in
theorem walk_TeimsgAll (ri ai : Int) (w : World) (hr : 0 ≤ ri ∧ ri ≤ 65535) (ha : 0 ≤ ai ∧ ai ≤ 255) :
    Calls Try.prog 6 #[.int .u16 ri, .int .u8 ai] w fun e w' => e = .returned (.bool true) ∧ Below w.heap.size w w' := by
  have hA := and127 ai ha.1 ha.2
  obtain ⟨r0, r1⟩ := hr
  obtain ⟨A, HA⟩ : ∃ A, bits .and .u8 ai 127 = A := ⟨_, rfl⟩
  rw [HA] at hA
  obtain ⟨a0, a1⟩ := hA
  clear ha
  go_enter Try.func6, Try.ntmps6
  go_wp2
  go_loopw [5, 6] (fun f k wr => ∃ m : Nat, 1 ≤ m ∧ m ≤ 8 ∧ k = .int .i64 (m : Int) ∧ f = .int .i64 (fromN m) ∧ Below w.heap.size w wr) (fun _ k _ => 8 - (intOf k).toNat)
  case atStart => exact ⟨1, by decide, by decide, rfl, rfl, Below.refl _ _⟩
  case round =>
    obtain ⟨m, hm1, hm8, rfl, rfl, hbel⟩ := hrel
    obtain ⟨c0, c1⟩ := fromN_bd m
    by_cases hlt : m < 8
    · have hk : Tm.known (m : Int) := ⟨by omega, by omega⟩
      have hfits : Tm.fits ri A := ⟨⟨r0, r1⟩, a0, a1⟩
      have hq0 : Below wr.heap.size wr (wr.alloc (.cells #[.int .i64 (m : Int), .int .i64 ri, .int .i64 A] 29)) := (Below.refl _ _).alloc (Nat.le_refl _) _
      have hM0 := msg3_new wr (m : Int) ri A 29
      have h0 : (Tm.putRes (m : Int) ri A).2 = 0 := by rw [Tm.put_good hk hfits]
      have hP := tput_any (m : Int) ri A (wr.alloc (.cells #[.int .i64 (m : Int), .int .i64 ri, .int .i64 A] 29))
      have hB := Tm.get_back h0
      have h5 := Tm.put_five h0
      rw [h0] at hP
      clear h0 hk hfits
      generalize (Tm.putRes (m : Int) ri A).1 = S at hP hB h5
      have hG := fun W => tget_any S W (by omega)
      rw [hB] at hG
      simp only [tgetV, msgV] at hG
      clear hB
      have hN := fun W => from_any (m : Int) W
      have HU : Hid (Tm.net (m : Int) = true → fromN (m + 1) = fromN m + 1) := fromN_in m hm1 hlt
      have HD : Hid (Tm.net (m : Int) = false → fromN (m + 1) = fromN m) := fromN_out m hm1 hlt
      generalize hb : Tm.net (m : Int) = b at hN HU HD
      clear hb
      generalize fromN m = c at c0 c1 HU HD
      go_wp2_with fail
      refine hP.mono ?_
      rintro e w1 ⟨rfl, hb1⟩
      clear hP
      have hM1 := hM0.later hb1
      have hq1 := hq0.trans (hb1.mono hq0.size)
      clear hM0 hq0 hb1
      go_wp2_with fail
      refine (hG _).mono ?_
      rintro e w2 ⟨rfl, hb2⟩
      clear hG
      obtain ⟨hl2, k0, k1, k2⟩ := hM1.later hb2
      have hq2 := hq1.trans (hb2.mono hq1.size)
      clear hM1 hq1 hb2
      go_wp2_with fail
      refine (hN _).mono ?_
      rintro e w' ⟨rfl, rfl⟩
      clear hN
      have hq3 := hbel.trans ((hq2.alloc hq2.size (.cells #[.int .i64 (m : Int), .int .i64 ri, .int .i64 A] 29)).mono hbel.size)
      cases b
      · have HD2 := HD.out rfl
        clear HU HD
        go_wp2
        go_roundw
        case rel => exact ⟨m + 1, by omega, by omega, by go_num, by rw [HD2], hq3⟩
        case measure => simp [intOf]; omega
      · have HU2 := HU.out rfl
        clear HU HD
        go_wp2
        go_roundw
        case rel => exact ⟨m + 1, by omega, by omega, by go_num, by rw [HU2], hq3⟩
        case measure => simp [intOf]; omega
    · obtain rfl : m = 8 := by omega
      have e4 : fromN 8 = 4 := rfl
      rw [e4]
      clear e4 c0 c1
      go_wp2_with fail
      refine (twakes_any _).mono ?_
      rintro e w1 ⟨rfl, hb1⟩
      go_wp2
      go_ret
      exact ⟨by simp, hbel.trans (hb1.mono hbel.size)⟩
end Go.Proofs.Ytfpdkdaoomakgaa
