/-
  The walks of the document's check sequence: unlike, bit, Step; each returns the number; nothing that was there is turned.
-/
import Derived.Test.YtdcohbdndkphnaaDoorRefOfWalks
import Derived.Test.YtdcohbdndkphnaaDoorFcsMath
namespace Go.Proofs.YtdcohbdndkphnaaDoor
open Go.RowKit
set_option linter.unusedVariables false
set_option linter.unusedSimpArgs false

set_option maxHeartbeats 400000 in
set_option maxRecDepth 100000 in
theorem unlike_any (a b : Nat) (w : World) (ha : a < 65536) (hb : b < 65536) :
    Calls Tryd.prog 63 #[.int .i64 (a : Int), .int .i64 (b : Int)] w fun e w' => e = .returned (.int .i64 ((a ^^^ b : Nat) : Int)) ∧ Below w.heap.size w w' := by
  go_enter Tryd.func63, Tryd.ntmps63
  go_wp2
  go_loopw [5, 6, 7] (fun n p c wr => ∃ i : Nat, i ≤ 16 ∧ c = .int .i64 i ∧ p = .int .i64 (2 ^ i) ∧ n = .int .i64 (((a ^^^ b) % 2 ^ i : Nat) : Int) ∧ Below w.heap.size w wr) (fun _ _ c _ => 16 - (intOf c).toNat)
  case atStart => exact ⟨0, Nat.zero_le _, rfl, rfl, by simp [Nat.mod_one], Below.refl _ _⟩
  case round =>
    obtain ⟨i, hi, rfl, rfl, rfl, hbel⟩ := hrel
    have hp : (2 : Int) ^ i ≤ 65536 := by
      have h : (2 : Nat) ^ i ≤ 2 ^ 16 := Nat.pow_le_pow_right (by decide) (by omega)
      have e : (2 : Int) ^ i = ((2 ^ i : Nat) : Int) := by simp
      rw [e]; omega
    have hq : 1 ≤ (2 : Int) ^ i := by
      have h : 1 ≤ 2 ^ i := Nat.one_le_two_pow
      have e : (2 : Int) ^ i = ((2 ^ i : Nat) : Int) := by simp
      rw [e]; omega
    have hn : (a ^^^ b) % 2 ^ i < 65536 := by
      have h : (2 : Nat) ^ i ≤ 2 ^ 16 := Nat.pow_le_pow_right (by decide) (by omega)
      have h2 : (a ^^^ b) % 2 ^ i < 2 ^ i := Nat.mod_lt _ (Nat.two_pow_pos i)
      omega
    have HP : Hid ((2 : Int) ^ (i + 1) = 2 * 2 ^ i) := by show (2 : Int) ^ (i + 1) = 2 * 2 ^ i; rw [Int.pow_succ]; omega
    have HN : Hid ((a ^^^ b) % 2 ^ (i + 1) = (a ^^^ b) % 2 ^ i + 2 ^ i * ((a ^^^ b) / 2 ^ i % 2)) := Fm.mod_next _ _
    have hda : (0 : Int) ≤ (a : Int) / 2 ^ i := by rw [Fm.nat_div_pow]; exact Int.natCast_nonneg _
    have hda' : (a : Int) / 2 ^ i ≤ 65535 := by rw [Fm.nat_div_pow]; have := Nat.div_le_self a (2 ^ i); omega
    have hdb : (0 : Int) ≤ (b : Int) / 2 ^ i := by rw [Fm.nat_div_pow]; exact Int.natCast_nonneg _
    have hdb' : (b : Int) / 2 ^ i ≤ 65535 := by rw [Fm.nat_div_pow]; have := Nat.div_le_self b (2 ^ i); omega
    by_cases hlt : i < 16
    · by_cases hx : (a ^^^ b) / 2 ^ i % 2 = 1
      · have ht := Fm.un_true a b i hx
        have HX : Hid ((a ^^^ b) / 2 ^ i % 2 = 1) := hx
        clear hx
        go_wp2
        go_quiet (fail)
        go_wp2
        go_roundw
        case rel => exact ⟨i + 1, by omega, by go_num, by rw [HP.out], by
          rw [HN.out, HX.out, Int.natCast_add, Nat.mul_one, Fm.pow_cast, Int.natCast_emod], below_drewN hbel _⟩
        case measure => simp [intOf]; omega
      · have ht := Fm.un_false a b i hx
        have HX : Hid ((a ^^^ b) / 2 ^ i % 2 = 0) := by show (a ^^^ b) / 2 ^ i % 2 = 0; omega
        clear hx
        go_wp2
        go_quiet (fail)
        go_wp2
        go_roundw
        case rel => exact ⟨i + 1, by omega, by go_num, by rw [HP.out], by
          rw [HN.out, HX.out, Nat.mul_zero, Nat.add_zero], below_drewN hbel _⟩
        case measure => simp [intOf]; omega
    · have HL : Hid ((a ^^^ b) % 2 ^ i = a ^^^ b) := by
        have e : i = 16 := by omega
        show (a ^^^ b) % 2 ^ i = a ^^^ b
        rw [e]; exact Nat.mod_eq_of_lt (Nat.xor_lt_two_pow (by omega) (by omega))
      go_wp2
      go_ret
      exact ⟨ret_int (by rw [HL.out]), hbel⟩

set_option maxHeartbeats 400000 in
set_option maxRecDepth 100000 in
theorem ref_bit_any (q x : Nat) (w : World) (hq : q < 65536) (hx : x < 2) :
    Calls Tryd.prog 62 #[.int .i64 (q : Int), .int .i64 (x : Int)] w fun e w' => e = .returned (.int .i64 ((Fm.bit1 q x : Nat) : Int)) ∧ Below w.heap.size w w' := by
  by_cases h : (q + x) % 2 = 1
  · have ht : ((q : Int) % 2 != (x : Int)) = true := by simp; omega
    have HE : Hid (((q / 2) ^^^ 33800) = Fm.bit1 q x) := by show (q / 2) ^^^ 33800 = Fm.bit1 q x; rw [Fm.bit1, Fm.mask, if_pos h]
    clear h
    go_enter Tryd.func62, Tryd.ntmps62
    go_wp2_with fail
    refine (unlike_any (q / 2) 33800 _ (by omega) (by decide)).mono ?_
    rintro e w1 ⟨rfl, hb⟩
    rw [HE.out]
    go_wp2
    go_ret
    exact ⟨rfl, hb⟩
  · have ht : ((q : Int) % 2 != (x : Int)) = false := by simp; omega
    have HE : Hid ((q : Int) / 2 = ((Fm.bit1 q x : Nat) : Int)) := Fm.code_keep q x h
    clear h
    go_enter Tryd.func62, Tryd.ntmps62
    go_wp2
    go_ret
    exact ⟨ret_int HE.out, Below.refl _ _⟩

theorem conv_one' (w : World) (x : Int) : (convert 76 9 (.slice (some ⟨w.heap.size, 0, none⟩) 1 1)).run Tryd.prog (w.alloc (.cells #[.int .u8 x] 5)) = .ok (.string (strOfNums [x])) (w.alloc (.cells #[.int .u8 x] 5)) := by
  refine run_convert_bytes_arg _ 76 5 Tryd.underlying76 Tryd.underlying5 w.heap.size 0 1 1 [x] rfl (fun i hi => ?_) 9 Tryd.underlying9
  have : i = 0 := by omega
  subst this
  simp
theorem bits_get (c : Nat) (hc : c < 256) (B : ByteArray) (hB : B = strOfNums (Bm.bitsN (c : Int))) (i : Nat) (hi : i < 8) (hs : i < B.size) : (B[i].toNat : Int) - 48 = ((c / 2 ^ i % 2 : Nat) : Int) := by
  have hr : ∀ n ∈ Bm.bitsN (c : Int), 0 ≤ n ∧ n ≤ 255 := fun n hn => by rcases Bm.bitsN_01 _ n hn with h | h <;> omega
  have e := Bm.nums_get B i hs
  have hn : Bm.nums B = Bm.bitsN (c : Int) := by rw [hB]; exact Bm.nums_str _ hr
  have e2 : (Bm.nums B)[i]? = some ((B[i].toNat : Int)) := by rw [List.getElem?_eq_getElem (by rw [Bm.nums_length]; exact hs), e]
  rw [hn] at e2
  have hi' : i = 0 ∨ i = 1 ∨ i = 2 ∨ i = 3 ∨ i = 4 ∨ i = 5 ∨ i = 6 ∨ i = 7 := by omega
  rcases hi' with rfl | rfl | rfl | rfl | rfl | rfl | rfl | rfl <;> simp [Bm.bitsN] at e2 <;> rw [← e2] <;> simp <;> omega

set_option maxHeartbeats 400000 in
set_option maxRecDepth 100000 in
theorem ref_step_any (r c : Nat) (w : World) (hr : r < 65536) (hc : c < 256) :
    Calls Tryd.prog 59 #[.int .i64 (r : Int), .int .u8 (c : Int)] w fun e w' => e = .returned (.int .i64 ((Fm.step r c : Nat) : Int)) ∧ Below w.heap.size w w' := by
  have hcv := conv_one' w (c : Int)
  have HN : Hid (strOfNums (Bm.ofN (Bm.nums (strOfNums [(c : Int)]))) = strOfNums (Bm.bitsN (c : Int))) := by
    show strOfNums (Bm.ofN (Bm.nums (strOfNums [(c : Int)]))) = strOfNums (Bm.bitsN (c : Int))
    rw [Bm.nums_str [(c : Int)] (fun n h => by simp at h; omega), Bm.ofN_one]
  go_enter Tryd.func59, Tryd.ntmps59
  go_wp2_with fail
  refine (ref_of_any (strOfNums [(c : Int)]) _ (by rw [strOfNums_size]; show 1 ≤ 1000000; decide)).mono ?_
  rintro e w1 ⟨rfl, hb1⟩
  rw [HN.out]
  clear hcv HN
  have hq1 : Below w.heap.size w w1 := ((Below.refl _ _).alloc (Nat.le_refl _) _).trans (hb1.mono (by simp))
  clear hb1
  obtain ⟨B, hB⟩ : ∃ B, B = strOfNums (Bm.bitsN (c : Int)) := ⟨_, rfl⟩
  rw [← hB]
  have hsz : 8 ≤ B.size := by rw [hB, strOfNums_size, Bm.bitsN_length]; exact Nat.le_refl _
  have HB : Hid (B = strOfNums (Bm.bitsN (c : Int))) := hB
  clear hB
  go_wp2
  go_loopw [0, 6] (fun x i wr => ∃ k : Nat, k ≤ 8 ∧ i = .int .i64 k ∧ x = .int .i64 ((Fm.stepK r c k : Nat) : Int) ∧ Below w.heap.size w wr) (fun _ i _ => 8 - (intOf i).toNat)
  case atStart => exact ⟨0, Nat.zero_le _, rfl, rfl, hq1⟩
  case round =>
    obtain ⟨k, hk8, rfl, rfl, hbel⟩ := hrel
    have hql : Fm.stepK r c k < 65536 := Fm.stepK_lt r c k hr
    by_cases hk : k < 8
    · have HS : Hid (Fm.stepK r c (k + 1) = Fm.bit1 (Fm.stepK r c k) (c / 2 ^ k % 2)) := Fm.stepK_succ r c k hk
      have hkb : k < B.size := by omega
      have hg := bits_get c hc B HB.out k hk hkb
      have HG : Hid ((B[k].toNat : Int) - 48 = ((c / 2 ^ k % 2 : Nat) : Int)) := hg
      have h48 : (48 : Int) ≤ (B[k].toNat : Int) := by omega
      have h49 : (B[k].toNat : Int) ≤ 49 := by omega
      clear hg
      go_wp2_with fail
      rw [HG.out]
      refine (ref_bit_any (Fm.stepK r c k) (c / 2 ^ k % 2) _ hql (by omega)).mono ?_
      rintro e w2 ⟨rfl, hb2⟩
      have hq2 := hbel.trans (hb2.mono hbel.size)
      clear hb2
      go_wp2
      go_roundw
      case rel => exact ⟨k + 1, by omega, by go_num, by rw [HS.out], hq2⟩
      case measure => simp [intOf]; omega
    · go_wp2
      go_ret
      have : k = 8 := by omega
      subst this
      exact ⟨ret_int (by rw [Fm.stepK_8]), hbel⟩
end Go.Proofs.YtdcohbdndkphnaaDoor
