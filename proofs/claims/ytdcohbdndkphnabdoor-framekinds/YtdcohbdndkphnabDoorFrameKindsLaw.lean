/-
  The walk of the law FrameKinds: it returns true.
-/
import Derived.Test.YtdcohbdndkphnabDoorFrameWakes
import Derived.Test.YtdcohbdndkphnabDoorCommon
namespace Go.Proofs.YtdcohbdndkphnabDoor
open Go.RowKit
set_option linter.unusedVariables false
set_option linter.unusedSimpArgs false

theorem kinds_made (n : Nat) : (madeCells #[Value.int .u8 0] n).toList = (List.replicate n (0 : Int)).map (Value.int .u8) := by
  rw [toList_madeCells_one, List.map_replicate]
def zeros (m : Nat) : ByteArray := strOfNums (List.replicate m 0)
theorem zeros_size (m : Nat) : (zeros m).size = m := by rw [zeros, strOfNums_size]; simp
theorem kinds_ctl (n : Nat) (hn : n < 10) : (Cm.putRes (n : Int) false 0 0).2 = 0 := by
  rcases Cm.put_ways (n : Int) false 0 0 with ⟨e, hp, he⟩ | ⟨q, hq, h1, h4⟩ | ⟨h0, h1, h2⟩ | ⟨q, hq, h0, h4, h2⟩
  · have : ∀ n : Nat, n < 10 → (Cm.putRes (n : Int) false 0 0).2 = 0 := by decide
    exact this n hn
  · rw [hq, Cm.put_high q false 0 0 h1 h4]
  · rw [h0, Cm.put_i false 0 0 h1 h2]
  · rw [hq, Cm.put_s q false 0 0 h0 h4 h2]
/-- the frame of kind n, with m octets of information -/
abbrev kf (n : Nat) (c : Bool) (m : Nat) : Xm.Fr := ⟨0, 64, c, (n : Int), false, 0, 0, zeros m⟩
theorem kinds_yes (n : Nat) (c net : Bool) (m : Nat) (hn : n < 10) (h1 : Xm.mayB (n : Int) c = true) (h2 : Xm.carB (n : Int) (m : Int) = true) :
    ∃ T : ByteArray, Xm.putRes (kf n c m) net = (T, 0) ∧ m + 5 ≤ T.size ∧ T.size ≤ m + 6 ∧ Xm.getRes T net = (kf n c m, 0) := by
  have hp := Xm.put_is (f := kf n c m) (net := net) h1 (kinds_ctl n hn) (by show (Am.putRes 0 64 (c == net)).2 = 0; cases c <;> cases net <;> decide) (by show Xm.carB (n : Int) ((zeros m).size : Int) = true; rw [zeros_size]; exact h2)
  have h0 : (Xm.putRes (kf n c m) net).2 = 0 := by rw [hp]
  have hs := (Xm.put_size h0).1
  have hc := Xm.ctl_size (f := kf n c m) (kinds_ctl n hn)
  have hb := Xm.back h0
  rw [hp] at hs hb
  refine ⟨_, hp, ?_, ?_, ?_⟩
  · have : (Fm.sealB (Xm.body (kf n c m) net)).size = (zeros m).size + (Xm.ctl (kf n c m)).1.size + 4 := hs
    rw [zeros_size] at this; omega
  · have : (Fm.sealB (Xm.body (kf n c m) net)).size = (zeros m).size + (Xm.ctl (kf n c m)).1.size + 4 := hs
    rw [zeros_size] at this; omega
  · rw [hb]
    simp [Xm.norm]
theorem kinds_no (n : Nat) (c net : Bool) (m : Nat) (h : (Xm.mayB (n : Int) c && Xm.carB (n : Int) (m : Int)) = false) :
    ∃ e : Int, Xm.putRes (kf n c m) net = (ByteArray.empty, e) ∧ e ≠ 0 := by
  have h0 : (Xm.putRes (kf n c m) net).2 ≠ 0 := by
    intro h0
    obtain ⟨h1, _, _, h4, _⟩ := Xm.put_ok h0
    have h4' : Xm.carB (n : Int) ((zeros m).size : Int) = true := h4
    rw [zeros_size] at h4'
    rw [show Xm.mayB (n : Int) c = true from h1, h4'] at h
    exact absurd h (by decide)
  refine ⟨(Xm.putRes (kf n c m) net).2, ?_, h0⟩
  rw [← Xm.put_bad h0]
theorem get_none (net : Bool) : Xm.getRes ByteArray.empty net = (Xm.zero, 6) := Xm.get_sum net (by decide)

set_option maxHeartbeats 1000000 in
set_option maxRecDepth 100000 in
theorem walk_FrameKinds (a : Int) (net : Bool) (w : World) (ha : -9223372036854775808 ≤ a ∧ a ≤ 9223372036854775807) (hL : Laws6 w) :
    Calls Tryd.prog 3 #[.int .i64 a, .bool net] w fun e w' => e = .returned (.bool true) ∧ Below w.heap.size w w' := by
  obtain ⟨i0, hi, hz0, hz1, hz2⟩ := info_parts byte5
  have hmax0 : (0 : Int) ≤ max 0 a := by omega
  have hmax1 : max 0 a ≤ 9223372036854775807 := by omega
  obtain ⟨m, hm⟩ : ∃ m : Nat, max 0 a % 300 = (m : Int) := Int.eq_ofNat_of_zero_le (Int.emod_nonneg _ (by omega))
  have hm1 : m < 300 := by have h1 : max 0 a % 300 < 300 := Int.emod_lt_of_pos _ (by omega); omega
  have HM : Hid (max 0 a % 300 = (m : Int)) := hm
  clear hm
  have HL : Hid (Laws6 w) := hL
  clear hL
  go_enter Tryd.func3, Tryd.ntmps3
  go_wp2
  rw [HM.out]
  clear HM hmax0 hmax1 ha
  go_loopw [5] (fun c wr => ∃ k : Nat, k ≤ 10 ∧ c = .int .i64 k ∧ Below w.heap.size w wr) (fun c _ => 10 - (intOf c).toNat)
  case atStart => exact ⟨0, Nat.zero_le _, rfl, Below.refl _ _⟩
  case round =>
    obtain ⟨k, hk10, rfl, hbel⟩ := hrel
    generalize wr = wo at hbel ⊢
    by_cases hlt : k < 10
    · go_wp2
      rw [show decide ((k : Int) < 10) = true from by rw [decide_eq_true_eq]; omega]
      have hcb : ∀ j, j < 2 → (wo.alloc (.cells #[.bool false, .bool true] 4)).cell? ⟨wo.heap.size, j, none⟩ = some (.bool (decide (j = 1))) := by
        intro j hj
        have : j = 0 ∨ j = 1 := by omega
        rcases this with rfl | rfl <;> simp
      have HCB : Hid (∀ j, j < 2 → (wo.alloc (.cells #[.bool false, .bool true] 4)).cell? ⟨wo.heap.size, j, none⟩ = some (.bool (decide (j = 1)))) := hcb
      have hqw : Below w.heap.size w (wo.alloc (.cells #[.bool false, .bool true] 4)) := hbel.alloc hbel.size _
      have hzw : wo.heap.size < (wo.alloc (.cells #[.bool false, .bool true] 4)).heap.size := by simp
      clear hcb hbel
      go_loopw [23] (fun c wq => ∃ j : Nat, j ≤ 2 ∧ c = .int .i64 j ∧ Below (wo.alloc (.cells #[.bool false, .bool true] 4)).heap.size (wo.alloc (.cells #[.bool false, .bool true] 4)) wq) (fun c _ => 2 - (intOf c).toNat)
      case atStart => exact ⟨0, Nat.zero_le _, rfl, Below.refl _ _⟩
      case round =>
        obtain ⟨j, hj2, rfl, hbel2⟩ := hrel
        have hq0 : Below w.heap.size w wr := hqw.trans (hbel2.mono hqw.size)
        by_cases hj : j < 2
        · have hcell := (hbel2.cell (p := ⟨wo.heap.size, j, none⟩) hzw).trans (HCB.out j hj)
          have hzr : wo.heap.size < wr.heap.size := Nat.lt_of_lt_of_le hzw hbel2.size
          generalize wr = wi at hbel2 hq0 hcell hzr ⊢
          obtain ⟨c, hc⟩ : ∃ c, c = decide (j = 1) := ⟨_, rfl⟩
          rw [← hc] at hcell
          clear hc
          go_wp2_with (at_make; refine wpList_make_full _ rfl _ _ 26 rfl wi.heap.size 5 i0 (.int .u8 0) 1 Tryd.underlying26 hi hz0 hz1 _ _ _ _ m rfl rfl ?l1 ?l2 ?b2 ?b3 (Nat.le_refl _) ?_)
          case l1 => omega
          case l2 => omega
          case b2 => rw [hz2]; omega
          case b3 => unfold maxLen; omega
          intro w0 hown0 hgrow0
          simp only [Value.cells, Nat.mul_one, kinds_made] at hown0
          have hbel0 : Below wi.heap.size wi w0 := (Below.refl _ _).grown hgrow0 (Nat.le_refl _) (fun k h => by cases h)
          have hcv := conv_own hown0
          have HZ : Hid (strOfNums (List.replicate m 0) = zeros m) := rfl
          rw [HZ.out] at hcv
          clear hgrow0 hown0
          have hq1 := hq0.trans (hbel0.mono hq0.size)
          have hbel3 := hbel2.trans (hbel0.mono hbel2.size)
          clear hbel0 hq0 hbel2
          have hqa : Below w0.heap.size w0 (w0.alloc (.cells #[.int .i64 0, .int .i64 64, .bool c, .int .i64 (k : Int), .bool false, .int .i64 0, .int .i64 0, .string (zeros m)] 28)) := (Below.refl _ _).alloc (Nat.le_refl _) _
          have hF0 := frc_new w0 0 64 c (k : Int) false 0 0 (zeros m) 28
          have hq2 := hq1.trans (hqa.mono hq1.size)
          have hbel4 := hbel3.trans (hqa.mono hbel3.size)
          have hP := fput_any 0 64 c (k : Int) false 0 0 (zeros m) net _ (by rw [zeros_size]; omega) (HL.out.later hq2)
          clear hqa hq1 hbel3
          by_cases hyes : (Xm.mayB (k : Int) c && Xm.carB (k : Int) (m : Int)) = true
          · rw [Bool.and_eq_true] at hyes
            obtain ⟨hy1, hy2⟩ := hyes
            obtain ⟨T, hT, hT1, hT2, hT3⟩ := kinds_yes k c net m hlt hy1 hy2
            rw [hT] at hP
            clear hT
            have HT3 : Hid (Xm.getRes T net = (kf k c m, 0)) := hT3
            clear hT3
            go_wp2_with fail
            refine hP.mono ?_
            rintro e w1 ⟨rfl, hb1⟩
            clear hP
            have hq3 := hq2.trans (hb1.mono hq2.size)
            have hF1 := hF0.later hb1
            have hbel5 := hbel4.trans (hb1.mono hbel4.size)
            clear hb1 hq2 hF0 hbel4
            have hM := may_any (k : Int) c w1 (HL.out.later hq3).ways
            rw [hy1] at hM
            have hCr := carries_any (k : Int) (m : Int) w1
            rw [hy2] at hCr
            go_wp2_with fail
            refine hM.mono ?_
            rintro e w' ⟨rfl, rfl⟩
            clear hM
            go_wp2_with fail
            refine hCr.mono ?_
            rintro e w' ⟨rfl, rfl⟩
            clear hCr
            have hG := fget_any T net w1 (by omega) (HL.out.later hq3)
            rw [HT3.out] at hG
            simp only [fgetV, frV] at hG
            have hT1' : (m : Int) + 5 ≤ (T.size : Int) := by omega
            go_wp2_with fail
            refine hG.mono ?_
            rintro e w2 ⟨rfl, hb2⟩
            clear hG
            have hq4 := hq3.trans (hb2.mono hq3.size)
            obtain ⟨la, a0, a1, a2, a3, a4, a5, a6, a7⟩ := hF1.later hb2
            have hbel6 := hbel5.trans (hb2.mono hbel5.size)
            clear hb2 hq3 hF1 hbel5
            have hbel7 := hbel6.alloc hbel6.size (.cells #[.int .i64 0, .int .i64 64, .bool c, .int .i64 (k : Int), .bool false, .int .i64 0, .int .i64 0, .string (zeros m)] 28)
            clear hbel6 hq4
            go_wp2
            go_roundw
            case rel => exact ⟨j + 1, by omega, by go_num, hbel7⟩
            case measure => simp [intOf]; omega
          · have hno : (Xm.mayB (k : Int) c && Xm.carB (k : Int) (m : Int)) = false := by simpa using hyes
            obtain ⟨e0, hT, he0⟩ := kinds_no k c net m hno
            rw [hT] at hP
            have te : (e0 == 0) = false := by simpa using he0
            clear hT he0 hyes
            go_wp2_with fail
            refine hP.mono ?_
            rintro e w1 ⟨rfl, hb1⟩
            clear hP
            have hq3 := hq2.trans (hb1.mono hq2.size)
            have hbel5 := hbel4.trans (hb1.mono hbel4.size)
            clear hb1 hq2 hF0 hbel4
            have hM := may_any (k : Int) c w1 (HL.out.later hq3).ways
            have hCr := carries_any (k : Int) (m : Int) w1
            have hG := fget_any ByteArray.empty net w1 (by decide) (HL.out.later hq3)
            rw [get_none] at hG
            simp only [fgetV, frV, Xm.zero] at hG
            by_cases hy1 : Xm.mayB (k : Int) c = true
            · have hy2 : Xm.carB (k : Int) (m : Int) = false := by rw [hy1] at hno; simpa using hno
              rw [hy1] at hM
              rw [hy2] at hCr
              clear hy1 hy2 hno
              go_wp2_with fail
              refine hM.mono ?_
              rintro e w' ⟨rfl, rfl⟩
              clear hM
              go_wp2_with fail
              refine hCr.mono ?_
              rintro e w' ⟨rfl, rfl⟩
              clear hCr
              go_wp2_with fail
              refine hG.mono ?_
              rintro e w2 ⟨rfl, hb2⟩
              clear hG
              have hbel6 := hbel5.trans (hb2.mono hbel5.size)
              have hbel7 := hbel6.alloc hbel6.size (.cells #[.int .i64 0, .int .i64 0, .bool false, .int .i64 0, .bool false, .int .i64 0, .int .i64 0, .string ByteArray.empty] 28)
              clear hbel6 hbel5 hb2 hq3
              go_wp2
              go_roundw
              case rel => exact ⟨j + 1, by omega, by go_num, hbel7⟩
              case measure => simp [intOf]; omega
            · have hy1' : Xm.mayB (k : Int) c = false := by simpa using hy1
              rw [hy1'] at hM
              clear hy1 hy1' hno hCr
              go_wp2_with fail
              refine hM.mono ?_
              rintro e w' ⟨rfl, rfl⟩
              clear hM
              go_wp2_with fail
              refine hG.mono ?_
              rintro e w2 ⟨rfl, hb2⟩
              clear hG
              have hbel6 := hbel5.trans (hb2.mono hbel5.size)
              have hbel7 := hbel6.alloc hbel6.size (.cells #[.int .i64 0, .int .i64 0, .bool false, .int .i64 0, .bool false, .int .i64 0, .int .i64 0, .string ByteArray.empty] 28)
              clear hbel6 hbel5 hb2 hq3
              go_wp2
              go_roundw
              case rel => exact ⟨j + 1, by omega, by go_num, hbel7⟩
              case measure => simp [intOf]; omega
        · go_wp2
          go_roundw
          case rel => exact ⟨k + 1, by omega, by go_num, hq0⟩
          case measure => simp [intOf]; omega
    · have e : k = 10 := by omega
      subst e
      go_wp2_with fail
      refine (fwakes_any _ (HL.out.later hbel)).mono ?_
      rintro e w1 ⟨rfl, h1⟩
      go_wp2
      go_ret
      exact ⟨rfl, hbel.trans (h1.mono hbel.size)⟩
end Go.Proofs.YtdcohbdndkphnabDoor
