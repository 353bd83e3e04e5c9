/-
  The walk of the law BitsBack: it returns true.
-/
import Derived.Test.YtpihicgmfjaghaaOfWalks
import Derived.Test.YtpihicgmfjaghaaOctetsWalks
import Derived.Test.YtpihicgmfjaghaaFlipWalks
namespace Go.Proofs.Ytpihicgmfjaghaa
open Go.RowKit
set_option linter.unusedVariables false
set_option linter.unusedSimpArgs false

theorem of_one' : strOfNums (Bm.ofN (Bm.nums ⟨#[1]⟩)) = ⟨#[49, 48, 48, 48, 48, 48, 48, 48]⟩ := by decide

theorem back_size (s : ByteArray) : (strOfNums (Bm.ofN (Bm.nums s))).size = 8 * s.size := by
  rw [strOfNums_size, Bm.ofN_length, Bm.nums_length]
theorem back_oct (s : ByteArray) : octRes (strOfNums (Bm.ofN (Bm.nums s))) = (s, 0) := by
  have hn : Bm.nums (strOfNums (Bm.ofN (Bm.nums s))) = Bm.ofN (Bm.nums s) := Bm.nums_str _ (Bm.ofN_range _)
  rw [octRes, hn, if_neg (by rw [Bm.ofN_good]; decide), if_neg (by rw [back_size]; omega), Bm.octs_ofN _ (Bm.nums_range s), Bm.str_nums]
theorem back_good (s : ByteArray) : Bm.goodN (Bm.nums (strOfNums (Bm.ofN (Bm.nums s)))) = true := by
  rw [Bm.nums_str _ (Bm.ofN_range _), Bm.ofN_good]
theorem back_flip (s : ByteArray) (ps : List Int) : strOfNums (Bm.flips (Bm.nums (strOfNums (Bm.flips (Bm.nums (strOfNums (Bm.ofN (Bm.nums s)))) ps))) ps) = strOfNums (Bm.ofN (Bm.nums s)) := by
  rw [Bm.nums_str _ (Bm.ofN_range _), Bm.nums_str _ (Bm.flips_range ps _ (Bm.ofN_range _)), Bm.flips_twice]
theorem flip_size (b : ByteArray) (ps : List Int) : (strOfNums (Bm.flips (Bm.nums b) ps)).size = b.size := by
  rw [strOfNums_size, Bm.flips_length, Bm.nums_length]

set_option maxHeartbeats 1000000 in
theorem back_short (s : ByteArray) (a : Option Addr) (len cap : Nat) (xs : List Int) (w : World) (hs : s.size ≤ 140737488351232) (hr : Row .i64 w a len cap xs) (hss : s.size ≤ 2000) :
    Calls Try.prog 8 #[.string s, .slice a len cap] w fun e w' => e = .returned (.bool true) ∧ Below w.heap.size w w' := by
  have hr' := hr
  obtain ⟨h1, h2, h3, h4, h5⟩ := hr'
  unfold maxLen at h3
  clear h4 h1
  rcases h5 with ⟨rfl, rfl, rfl⟩ | ⟨⟨x, rfl⟩, rfl⟩ | ⟨b, off, rfl, h0, hlt, hc⟩
  · go_enter Try.func8, Try.ntmps8
    go_wp2_with fail
    go_region
    go_wp2_with fail
    refine (of_any s _ (by omega)).mono ?_
    rintro e w1 ⟨rfl, hb1⟩
    have hq1 : Below w.heap.size w w1 := (Below.refl _ _).drew.trans hb1
    have f1 : Hid (octRes (strOfNums (Bm.ofN (Bm.nums s))) = (s, 0)) := back_oct s
    have f2 : Hid (Bm.goodN (Bm.nums (strOfNums (Bm.ofN (Bm.nums s)))) = true) := back_good s
    have f3 : Hid (∀ ps, strOfNums (Bm.flips (Bm.nums (strOfNums (Bm.flips (Bm.nums (strOfNums (Bm.ofN (Bm.nums s)))) ps))) ps) = strOfNums (Bm.ofN (Bm.nums s))) := back_flip s
    have f4 : Hid ((strOfNums (Bm.ofN (Bm.nums s))).size = 8 * s.size) := back_size s
    generalize strOfNums (Bm.ofN (Bm.nums s)) = B at f1 f2 f3 f4 ⊢
    go_wp2_with fail
    refine (octets_any B _ (by rw [f4.out]; omega)).mono ?_
    rintro e w2 ⟨rfl, hb2⟩
    rw [f1.out]
    have hq2 := hq1.trans (hb2.mono hq1.size)
    go_wp2_with fail
    refine (of_any ⟨#[1]⟩ _ (by decide)).mono ?_
    rintro e w3 ⟨rfl, hb3⟩
    rw [of_one']
    have hq3 := hq2.trans (hb3.mono hq2.size)
    have hlen : ((B.size : Int) == 8 * (s.size : Int)) = true := by have := f4.out; simp; omega
    go_wp2_with fail
    refine (good_any B _ (by rw [f4.out]; omega)).mono ?_
    rintro e w4 ⟨rfl, rfl⟩
    rw [f2.out]
    go_wp2_with fail
    refine (flip_any B _ _ _ xs _ (by rw [f4.out]; omega) (by omega) (hr.later hq3)).mono ?_
    rintro e w5 ⟨rfl, hb5⟩
    have hq5 := hq3.trans (hb5.mono hq3.size)
    go_wp2_with fail
    refine (flip_any _ _ _ _ xs _ (by rw [flip_size, f4.out]; omega) (by omega) (hr.later hq5)).mono ?_
    rintro e w6 ⟨rfl, hb6⟩
    rw [f3.out]
    go_wp2
    go_ret
    exact ⟨by simp, hq5.trans (hb6.mono hq5.size)⟩
  · go_enter Try.func8, Try.ntmps8
    go_wp2_with fail
    go_region
    go_wp2_with fail
    refine (of_any s _ (by omega)).mono ?_
    rintro e w1 ⟨rfl, hb1⟩
    have hq1 : Below w.heap.size w w1 := (Below.refl _ _).drew.trans hb1
    have f1 : Hid (octRes (strOfNums (Bm.ofN (Bm.nums s))) = (s, 0)) := back_oct s
    have f2 : Hid (Bm.goodN (Bm.nums (strOfNums (Bm.ofN (Bm.nums s)))) = true) := back_good s
    have f3 : Hid (∀ ps, strOfNums (Bm.flips (Bm.nums (strOfNums (Bm.flips (Bm.nums (strOfNums (Bm.ofN (Bm.nums s)))) ps))) ps) = strOfNums (Bm.ofN (Bm.nums s))) := back_flip s
    have f4 : Hid ((strOfNums (Bm.ofN (Bm.nums s))).size = 8 * s.size) := back_size s
    generalize strOfNums (Bm.ofN (Bm.nums s)) = B at f1 f2 f3 f4 ⊢
    go_wp2_with fail
    refine (octets_any B _ (by rw [f4.out]; omega)).mono ?_
    rintro e w2 ⟨rfl, hb2⟩
    rw [f1.out]
    have hq2 := hq1.trans (hb2.mono hq1.size)
    go_wp2_with fail
    refine (of_any ⟨#[1]⟩ _ (by decide)).mono ?_
    rintro e w3 ⟨rfl, hb3⟩
    rw [of_one']
    have hq3 := hq2.trans (hb3.mono hq2.size)
    have hlen : ((B.size : Int) == 8 * (s.size : Int)) = true := by have := f4.out; simp; omega
    go_wp2_with fail
    refine (good_any B _ (by rw [f4.out]; omega)).mono ?_
    rintro e w4 ⟨rfl, rfl⟩
    rw [f2.out]
    go_wp2_with fail
    refine (flip_any B _ _ _ xs _ (by rw [f4.out]; omega) (by omega) (hr.later hq3)).mono ?_
    rintro e w5 ⟨rfl, hb5⟩
    have hq5 := hq3.trans (hb5.mono hq3.size)
    go_wp2_with fail
    refine (flip_any _ _ _ _ xs _ (by rw [flip_size, f4.out]; omega) (by omega) (hr.later hq5)).mono ?_
    rintro e w6 ⟨rfl, hb6⟩
    rw [f3.out]
    go_wp2
    go_ret
    exact ⟨by simp, hq5.trans (hb6.mono hq5.size)⟩
  · clear hc
    by_cases h100 : len ≤ 100
    · go_enter Try.func8, Try.ntmps8
      go_wp2_with fail
      go_region
      go_wp2_with fail
      refine (of_any s _ (by omega)).mono ?_
      rintro e w1 ⟨rfl, hb1⟩
      have hq1 : Below w.heap.size w w1 := (Below.refl _ _).drew.trans hb1
      have f1 : Hid (octRes (strOfNums (Bm.ofN (Bm.nums s))) = (s, 0)) := back_oct s
      have f2 : Hid (Bm.goodN (Bm.nums (strOfNums (Bm.ofN (Bm.nums s)))) = true) := back_good s
      have f3 : Hid (∀ ps, strOfNums (Bm.flips (Bm.nums (strOfNums (Bm.flips (Bm.nums (strOfNums (Bm.ofN (Bm.nums s)))) ps))) ps) = strOfNums (Bm.ofN (Bm.nums s))) := back_flip s
      have f4 : Hid ((strOfNums (Bm.ofN (Bm.nums s))).size = 8 * s.size) := back_size s
      generalize strOfNums (Bm.ofN (Bm.nums s)) = B at f1 f2 f3 f4 ⊢
      go_wp2_with fail
      refine (octets_any B _ (by rw [f4.out]; omega)).mono ?_
      rintro e w2 ⟨rfl, hb2⟩
      rw [f1.out]
      have hq2 := hq1.trans (hb2.mono hq1.size)
      go_wp2_with fail
      refine (of_any ⟨#[1]⟩ _ (by decide)).mono ?_
      rintro e w3 ⟨rfl, hb3⟩
      rw [of_one']
      have hq3 := hq2.trans (hb3.mono hq2.size)
      have hlen : ((B.size : Int) == 8 * (s.size : Int)) = true := by have := f4.out; simp; omega
      go_wp2_with fail
      refine (good_any B _ (by rw [f4.out]; omega)).mono ?_
      rintro e w4 ⟨rfl, rfl⟩
      rw [f2.out]
      go_wp2_with fail
      refine (flip_any B _ _ _ xs _ (by rw [f4.out]; omega) (by omega) (hr.later hq3)).mono ?_
      rintro e w5 ⟨rfl, hb5⟩
      have hq5 := hq3.trans (hb5.mono hq3.size)
      go_wp2_with fail
      refine (flip_any _ _ _ _ xs _ (by rw [flip_size, f4.out]; omega) (by omega) (hr.later hq5)).mono ?_
      rintro e w6 ⟨rfl, hb6⟩
      rw [f3.out]
      go_wp2
      go_ret
      exact ⟨by simp, hq5.trans (hb6.mono hq5.size)⟩
    · replace hr := hr.cut 100 (by omega)
      go_enter Try.func8, Try.ntmps8
      go_wp2_with fail
      go_region
      go_wp2_with fail
      refine (of_any s _ (by omega)).mono ?_
      rintro e w1 ⟨rfl, hb1⟩
      have hq1 : Below w.heap.size w w1 := (Below.refl _ _).drew.trans hb1
      have f1 : Hid (octRes (strOfNums (Bm.ofN (Bm.nums s))) = (s, 0)) := back_oct s
      have f2 : Hid (Bm.goodN (Bm.nums (strOfNums (Bm.ofN (Bm.nums s)))) = true) := back_good s
      have f3 : Hid (∀ ps, strOfNums (Bm.flips (Bm.nums (strOfNums (Bm.flips (Bm.nums (strOfNums (Bm.ofN (Bm.nums s)))) ps))) ps) = strOfNums (Bm.ofN (Bm.nums s))) := back_flip s
      have f4 : Hid ((strOfNums (Bm.ofN (Bm.nums s))).size = 8 * s.size) := back_size s
      generalize strOfNums (Bm.ofN (Bm.nums s)) = B at f1 f2 f3 f4 ⊢
      go_wp2_with fail
      refine (octets_any B _ (by rw [f4.out]; omega)).mono ?_
      rintro e w2 ⟨rfl, hb2⟩
      rw [f1.out]
      have hq2 := hq1.trans (hb2.mono hq1.size)
      go_wp2_with fail
      refine (of_any ⟨#[1]⟩ _ (by decide)).mono ?_
      rintro e w3 ⟨rfl, hb3⟩
      rw [of_one']
      have hq3 := hq2.trans (hb3.mono hq2.size)
      have hlen : ((B.size : Int) == 8 * (s.size : Int)) = true := by have := f4.out; simp; omega
      go_wp2_with fail
      refine (good_any B _ (by rw [f4.out]; omega)).mono ?_
      rintro e w4 ⟨rfl, rfl⟩
      rw [f2.out]
      go_wp2_with fail
      refine (flip_any B _ _ _ (xs.take 100) _ (by rw [f4.out]; omega) (by omega) (hr.later hq3)).mono ?_
      rintro e w5 ⟨rfl, hb5⟩
      have hq5 := hq3.trans (hb5.mono hq3.size)
      go_wp2_with fail
      refine (flip_any _ _ _ _ (xs.take 100) _ (by rw [flip_size, f4.out]; omega) (by omega) (hr.later hq5)).mono ?_
      rintro e w6 ⟨rfl, hb6⟩
      rw [f3.out]
      go_wp2
      go_ret
      exact ⟨by simp, hq5.trans (hb6.mono hq5.size)⟩

set_option maxHeartbeats 1000000 in
theorem back_long (s : ByteArray) (a : Option Addr) (len cap : Nat) (xs : List Int) (w : World) (hs : s.size ≤ 140737488351232) (hr : Row .i64 w a len cap xs) (hss : 2000 < s.size) :
    Calls Try.prog 8 #[.string s, .slice a len cap] w fun e w' => e = .returned (.bool true) ∧ Below w.heap.size w w' := by
  have hr' := hr
  obtain ⟨h1, h2, h3, h4, h5⟩ := hr'
  unfold maxLen at h3
  clear h4 h1
  rcases h5 with ⟨rfl, rfl, rfl⟩ | ⟨⟨x, rfl⟩, rfl⟩ | ⟨b, off, rfl, h0, hlt, hc⟩
  · go_enter Try.func8, Try.ntmps8
    go_wp2_with fail
    go_region
    go_wp2_with fail
    obtain ⟨t, hT⟩ : ∃ t, t = s.extract 0 2000 := ⟨_, rfl⟩
    have hts : t.size ≤ 2000 := by rw [hT]; simp; omega
    rw [← hT]
    clear hT
    refine (of_any t _ (by omega)).mono ?_
    rintro e w1 ⟨rfl, hb1⟩
    have hq1 : Below w.heap.size w w1 := (Below.refl _ _).drew.trans hb1
    have f1 : Hid (octRes (strOfNums (Bm.ofN (Bm.nums t))) = (t, 0)) := back_oct t
    have f2 : Hid (Bm.goodN (Bm.nums (strOfNums (Bm.ofN (Bm.nums t)))) = true) := back_good t
    have f3 : Hid (∀ ps, strOfNums (Bm.flips (Bm.nums (strOfNums (Bm.flips (Bm.nums (strOfNums (Bm.ofN (Bm.nums t)))) ps))) ps) = strOfNums (Bm.ofN (Bm.nums t))) := back_flip t
    have f4 : Hid ((strOfNums (Bm.ofN (Bm.nums t))).size = 8 * t.size) := back_size t
    generalize strOfNums (Bm.ofN (Bm.nums t)) = B at f1 f2 f3 f4 ⊢
    go_wp2_with fail
    refine (octets_any B _ (by rw [f4.out]; omega)).mono ?_
    rintro e w2 ⟨rfl, hb2⟩
    rw [f1.out]
    have hq2 := hq1.trans (hb2.mono hq1.size)
    go_wp2_with fail
    refine (of_any ⟨#[1]⟩ _ (by decide)).mono ?_
    rintro e w3 ⟨rfl, hb3⟩
    rw [of_one']
    have hq3 := hq2.trans (hb3.mono hq2.size)
    have hlen : ((B.size : Int) == 8 * (t.size : Int)) = true := by have := f4.out; simp; omega
    go_wp2_with fail
    refine (good_any B _ (by rw [f4.out]; omega)).mono ?_
    rintro e w4 ⟨rfl, rfl⟩
    rw [f2.out]
    go_wp2_with fail
    refine (flip_any B _ _ _ xs _ (by rw [f4.out]; omega) (by omega) (hr.later hq3)).mono ?_
    rintro e w5 ⟨rfl, hb5⟩
    have hq5 := hq3.trans (hb5.mono hq3.size)
    go_wp2_with fail
    refine (flip_any _ _ _ _ xs _ (by rw [flip_size, f4.out]; omega) (by omega) (hr.later hq5)).mono ?_
    rintro e w6 ⟨rfl, hb6⟩
    rw [f3.out]
    go_wp2
    go_ret
    exact ⟨by simp, hq5.trans (hb6.mono hq5.size)⟩
  · go_enter Try.func8, Try.ntmps8
    go_wp2_with fail
    go_region
    go_wp2_with fail
    obtain ⟨t, hT⟩ : ∃ t, t = s.extract 0 2000 := ⟨_, rfl⟩
    have hts : t.size ≤ 2000 := by rw [hT]; simp; omega
    rw [← hT]
    clear hT
    refine (of_any t _ (by omega)).mono ?_
    rintro e w1 ⟨rfl, hb1⟩
    have hq1 : Below w.heap.size w w1 := (Below.refl _ _).drew.trans hb1
    have f1 : Hid (octRes (strOfNums (Bm.ofN (Bm.nums t))) = (t, 0)) := back_oct t
    have f2 : Hid (Bm.goodN (Bm.nums (strOfNums (Bm.ofN (Bm.nums t)))) = true) := back_good t
    have f3 : Hid (∀ ps, strOfNums (Bm.flips (Bm.nums (strOfNums (Bm.flips (Bm.nums (strOfNums (Bm.ofN (Bm.nums t)))) ps))) ps) = strOfNums (Bm.ofN (Bm.nums t))) := back_flip t
    have f4 : Hid ((strOfNums (Bm.ofN (Bm.nums t))).size = 8 * t.size) := back_size t
    generalize strOfNums (Bm.ofN (Bm.nums t)) = B at f1 f2 f3 f4 ⊢
    go_wp2_with fail
    refine (octets_any B _ (by rw [f4.out]; omega)).mono ?_
    rintro e w2 ⟨rfl, hb2⟩
    rw [f1.out]
    have hq2 := hq1.trans (hb2.mono hq1.size)
    go_wp2_with fail
    refine (of_any ⟨#[1]⟩ _ (by decide)).mono ?_
    rintro e w3 ⟨rfl, hb3⟩
    rw [of_one']
    have hq3 := hq2.trans (hb3.mono hq2.size)
    have hlen : ((B.size : Int) == 8 * (t.size : Int)) = true := by have := f4.out; simp; omega
    go_wp2_with fail
    refine (good_any B _ (by rw [f4.out]; omega)).mono ?_
    rintro e w4 ⟨rfl, rfl⟩
    rw [f2.out]
    go_wp2_with fail
    refine (flip_any B _ _ _ xs _ (by rw [f4.out]; omega) (by omega) (hr.later hq3)).mono ?_
    rintro e w5 ⟨rfl, hb5⟩
    have hq5 := hq3.trans (hb5.mono hq3.size)
    go_wp2_with fail
    refine (flip_any _ _ _ _ xs _ (by rw [flip_size, f4.out]; omega) (by omega) (hr.later hq5)).mono ?_
    rintro e w6 ⟨rfl, hb6⟩
    rw [f3.out]
    go_wp2
    go_ret
    exact ⟨by simp, hq5.trans (hb6.mono hq5.size)⟩
  · clear hc
    by_cases h100 : len ≤ 100
    · go_enter Try.func8, Try.ntmps8
      go_wp2_with fail
      go_region
      go_wp2_with fail
      obtain ⟨t, hT⟩ : ∃ t, t = s.extract 0 2000 := ⟨_, rfl⟩
      have hts : t.size ≤ 2000 := by rw [hT]; simp; omega
      rw [← hT]
      clear hT
      refine (of_any t _ (by omega)).mono ?_
      rintro e w1 ⟨rfl, hb1⟩
      have hq1 : Below w.heap.size w w1 := (Below.refl _ _).drew.trans hb1
      have f1 : Hid (octRes (strOfNums (Bm.ofN (Bm.nums t))) = (t, 0)) := back_oct t
      have f2 : Hid (Bm.goodN (Bm.nums (strOfNums (Bm.ofN (Bm.nums t)))) = true) := back_good t
      have f3 : Hid (∀ ps, strOfNums (Bm.flips (Bm.nums (strOfNums (Bm.flips (Bm.nums (strOfNums (Bm.ofN (Bm.nums t)))) ps))) ps) = strOfNums (Bm.ofN (Bm.nums t))) := back_flip t
      have f4 : Hid ((strOfNums (Bm.ofN (Bm.nums t))).size = 8 * t.size) := back_size t
      generalize strOfNums (Bm.ofN (Bm.nums t)) = B at f1 f2 f3 f4 ⊢
      go_wp2_with fail
      refine (octets_any B _ (by rw [f4.out]; omega)).mono ?_
      rintro e w2 ⟨rfl, hb2⟩
      rw [f1.out]
      have hq2 := hq1.trans (hb2.mono hq1.size)
      go_wp2_with fail
      refine (of_any ⟨#[1]⟩ _ (by decide)).mono ?_
      rintro e w3 ⟨rfl, hb3⟩
      rw [of_one']
      have hq3 := hq2.trans (hb3.mono hq2.size)
      have hlen : ((B.size : Int) == 8 * (t.size : Int)) = true := by have := f4.out; simp; omega
      go_wp2_with fail
      refine (good_any B _ (by rw [f4.out]; omega)).mono ?_
      rintro e w4 ⟨rfl, rfl⟩
      rw [f2.out]
      go_wp2_with fail
      refine (flip_any B _ _ _ xs _ (by rw [f4.out]; omega) (by omega) (hr.later hq3)).mono ?_
      rintro e w5 ⟨rfl, hb5⟩
      have hq5 := hq3.trans (hb5.mono hq3.size)
      go_wp2_with fail
      refine (flip_any _ _ _ _ xs _ (by rw [flip_size, f4.out]; omega) (by omega) (hr.later hq5)).mono ?_
      rintro e w6 ⟨rfl, hb6⟩
      rw [f3.out]
      go_wp2
      go_ret
      exact ⟨by simp, hq5.trans (hb6.mono hq5.size)⟩
    · replace hr := hr.cut 100 (by omega)
      go_enter Try.func8, Try.ntmps8
      go_wp2_with fail
      go_region
      go_wp2_with fail
      obtain ⟨t, hT⟩ : ∃ t, t = s.extract 0 2000 := ⟨_, rfl⟩
      have hts : t.size ≤ 2000 := by rw [hT]; simp; omega
      rw [← hT]
      clear hT
      refine (of_any t _ (by omega)).mono ?_
      rintro e w1 ⟨rfl, hb1⟩
      have hq1 : Below w.heap.size w w1 := (Below.refl _ _).drew.trans hb1
      have f1 : Hid (octRes (strOfNums (Bm.ofN (Bm.nums t))) = (t, 0)) := back_oct t
      have f2 : Hid (Bm.goodN (Bm.nums (strOfNums (Bm.ofN (Bm.nums t)))) = true) := back_good t
      have f3 : Hid (∀ ps, strOfNums (Bm.flips (Bm.nums (strOfNums (Bm.flips (Bm.nums (strOfNums (Bm.ofN (Bm.nums t)))) ps))) ps) = strOfNums (Bm.ofN (Bm.nums t))) := back_flip t
      have f4 : Hid ((strOfNums (Bm.ofN (Bm.nums t))).size = 8 * t.size) := back_size t
      generalize strOfNums (Bm.ofN (Bm.nums t)) = B at f1 f2 f3 f4 ⊢
      go_wp2_with fail
      refine (octets_any B _ (by rw [f4.out]; omega)).mono ?_
      rintro e w2 ⟨rfl, hb2⟩
      rw [f1.out]
      have hq2 := hq1.trans (hb2.mono hq1.size)
      go_wp2_with fail
      refine (of_any ⟨#[1]⟩ _ (by decide)).mono ?_
      rintro e w3 ⟨rfl, hb3⟩
      rw [of_one']
      have hq3 := hq2.trans (hb3.mono hq2.size)
      have hlen : ((B.size : Int) == 8 * (t.size : Int)) = true := by have := f4.out; simp; omega
      go_wp2_with fail
      refine (good_any B _ (by rw [f4.out]; omega)).mono ?_
      rintro e w4 ⟨rfl, rfl⟩
      rw [f2.out]
      go_wp2_with fail
      refine (flip_any B _ _ _ (xs.take 100) _ (by rw [f4.out]; omega) (by omega) (hr.later hq3)).mono ?_
      rintro e w5 ⟨rfl, hb5⟩
      have hq5 := hq3.trans (hb5.mono hq3.size)
      go_wp2_with fail
      refine (flip_any _ _ _ _ (xs.take 100) _ (by rw [flip_size, f4.out]; omega) (by omega) (hr.later hq5)).mono ?_
      rintro e w6 ⟨rfl, hb6⟩
      rw [f3.out]
      go_wp2
      go_ret
      exact ⟨by simp, hq5.trans (hb6.mono hq5.size)⟩

theorem walk_BitsBack (s : ByteArray) (a : Option Addr) (len cap : Nat) (xs : List Int) (w : World) (hs : s.size ≤ 140737488351232) (hr : Row .i64 w a len cap xs) :
    Calls Try.prog 8 #[.string s, .slice a len cap] w fun e w' => e = .returned (.bool true) ∧ Below w.heap.size w w' := by
  by_cases hss : s.size ≤ 2000
  · exact back_short s a len cap xs w hs hr hss
  · exact back_long s a len cap xs w hs hr (by omega)
end Go.Proofs.Ytpihicgmfjaghaa
