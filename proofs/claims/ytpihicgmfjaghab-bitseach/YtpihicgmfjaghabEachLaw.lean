/-
  The walk of the law BitsEach: it returns true.
-/
import Derived.Test.YtpihicgmfjaghabOfWalks
import Derived.Test.YtpihicgmfjaghabFieldWalks
namespace Go.Proofs.Ytpihicgmfjaghab
open Go.RowKit
set_option linter.unusedVariables false
set_option linter.unusedSimpArgs false

theorem of_one'' : strOfNums (Bm.ofN (Bm.nums ⟨#[1]⟩)) = ⟨#[49, 48, 48, 48, 48, 48, 48, 48]⟩ := by decide

theorem each_size (x : Int) : (strOfNums (Bm.bitsN x)).size = 8 := by rw [strOfNums_size, Bm.bitsN_length]
theorem each_get (x : Int) (h0 : 0 ≤ x) (h1 : x ≤ 255) (B : ByteArray) (hB : B = strOfNums (Bm.bitsN x)) (i : Nat) (hi : i < 8) (hs : i < B.size) : (B[i].toNat : Int) = 48 + Bm.fld x i 1 := by
  have hr : ∀ n ∈ Bm.bitsN x, 0 ≤ n ∧ n ≤ 255 := fun n hn => by rcases Bm.bitsN_01 x n hn with h | h <;> omega
  have e := Bm.nums_get B i hs
  have hn : Bm.nums B = Bm.bitsN x := by rw [hB]; exact Bm.nums_str _ hr
  have e2 : (Bm.nums B)[i]? = some ((B[i].toNat : Int)) := by rw [List.getElem?_eq_getElem (by rw [Bm.nums_length]; exact hs), e]
  rw [hn] at e2
  rw [Bm.fld, if_neg (by omega), Int.toNat_natCast, show (2 : Int) ^ (min (1 : Int) 8).toNat = 2 from by decide]
  have hi' : i = 0 ∨ i = 1 ∨ i = 2 ∨ i = 3 ∨ i = 4 ∨ i = 5 ∨ i = 6 ∨ i = 7 := by omega
  rcases hi' with rfl | rfl | rfl | rfl | rfl | rfl | rfl | rfl <;> simp [Bm.bitsN] at e2 <;> rw [← e2] <;> simp

theorem conv_one (w : World) (x : Int) : (convert 31 9 (.slice (some ⟨w.heap.size, 0, none⟩) 1 1)).run Try.prog (w.alloc (.cells #[.int .u8 x] 5)) = .ok (.string (strOfNums [x])) (w.alloc (.cells #[.int .u8 x] 5)) := by
  refine run_convert_bytes_arg _ 31 5 Try.underlying31 Try.underlying5 w.heap.size 0 1 1 [x] rfl (fun i hi => ?_) 9 Try.underlying9
  have : i = 0 := by omega
  subst this
  simp

set_option maxHeartbeats 400000 in
theorem walk_BitsEach (x : Int) (w : World) (hx : 0 ≤ x ∧ x ≤ 255) :
    Calls Try.prog 4 #[.int .u8 x] w fun e w' => e = .returned (.bool true) ∧ Below w.heap.size w w' := by
  obtain ⟨hx0, hx1⟩ := hx
  have hcv := conv_one w x
  have hn : Bm.nums (strOfNums [x]) = [x] := Bm.nums_str [x] (fun n h => by simp at h; subst h; exact ⟨hx0, hx1⟩)
  have HN : Hid (strOfNums (Bm.ofN (Bm.nums (strOfNums [x]))) = strOfNums (Bm.bitsN x)) := by show strOfNums (Bm.ofN (Bm.nums (strOfNums [x]))) = strOfNums (Bm.bitsN x); rw [hn, Bm.ofN_one]
  clear hn
  go_enter Try.func4, Try.ntmps4
  go_wp2_with fail
  refine (of_any (strOfNums [x]) _ (by rw [strOfNums_size]; show 1 ≤ 1000000; decide)).mono ?_
  rintro e w1 ⟨rfl, hb1⟩
  rw [HN.out]
  clear hcv HN
  have hq1 : Below w.heap.size w w1 := ((Below.refl _ _).alloc (Nat.le_refl _) _).trans (hb1.mono (by simp))
  obtain ⟨B, hB⟩ : ∃ B, B = strOfNums (Bm.bitsN x) := ⟨_, rfl⟩
  rw [← hB]
  have hsz : B.size = 8 := by rw [hB]; exact each_size x
  have HB : Hid (B = strOfNums (Bm.bitsN x)) := hB
  have hlen : ((B.size : Int) != 8) = false := by rw [hsz]; rfl
  have hs1 : 8 ≤ B.size := by omega
  clear hB hsz
  go_wp2_with fail
  refine (of_any ⟨#[1]⟩ _ (by decide)).mono ?_
  rintro e w2 ⟨rfl, hb2⟩
  rw [of_one'']
  have hq2 := hq1.trans (hb2.mono hq1.size)
  go_wp2
  go_loopw [16] (fun c wr => ∃ i : Nat, i ≤ 8 ∧ c = .int .i64 i ∧ Below w.heap.size w wr) (fun c _ => 8 - (intOf c).toNat)
  case atStart => exact ⟨0, Nat.zero_le _, rfl, hq2⟩
  case round =>
    obtain ⟨i, hi8, rfl, hbel⟩ := hrel
    by_cases hlt : i < 8
    · have hib : i < B.size := by omega
      have hg : (B[i].toNat : Int) = 48 + Bm.fld x i 1 := each_get x hx0 hx1 B HB.out i hlt hib
      have hgb : 0 ≤ Bm.fld x i 1 ∧ Bm.fld x i 1 ≤ 1 := by
        rw [Bm.fld, if_neg (by omega)]
        have e : (2 : Int) ^ (min (1 : Int) 8).toNat = 2 := by decide
        rw [e]; omega
      obtain ⟨hg0, hg1⟩ := hgb
      have hl : (48 : Int) ≤ (B[i].toNat : Int) := by omega
      have hh : (B[i].toNat : Int) ≤ 49 := by omega
      have HG : Hid ((B[i].toNat : Int) = 48 + Bm.fld x i 1) := hg
      have hne : ((B[i].toNat : Int) - 48 != Bm.fld x i 1) = false := by rw [hg]; simp; omega
      clear hg
      go_wp2_with fail
      go_quiet ((go_at_call 6; exact Calls.quiet_of (field_any _ _ _ _ (by omega) (by omega) (by omega))))
      go_wp2
      go_roundw
      case rel => exact ⟨i + 1, by omega, by go_num, below_drewN hbel _⟩
      case measure => simp [intOf]; omega
    · go_wp2
      go_ret
      exact ⟨rfl, hbel⟩
end Go.Proofs.Ytpihicgmfjaghab
