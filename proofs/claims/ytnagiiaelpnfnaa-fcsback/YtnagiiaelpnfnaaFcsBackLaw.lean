/-
  The walk of the law FcsBack: it returns true.
-/
import Derived.Test.YtnagiiaelpnfnaaFcsCheckWalks
namespace Go.Proofs.Ytnagiiaelpnfnaa
open Go.RowKit
set_option linter.unusedVariables false
set_option linter.unusedSimpArgs false

set_option maxHeartbeats 400000 in
theorem walk_FcsBack (s : ByteArray) (w : World) (hs : s.size ≤ 140737488351232) :
    Calls Try.prog 6 #[.string s] w fun e w' => e = .returned (.bool true) ∧ Below w.heap.size w w' := by
  go_enter Try.func6, Try.ntmps6
  go_wp2_with fail
  obtain ⟨t, hT⟩ : ∃ t, t = s.extract 0 (min (s.size : Int) 2000).toNat := ⟨_, rfl⟩
  have hts : t.size ≤ 2000 := by rw [hT]; simp; omega
  rw [← hT]
  clear hT
  refine (seal_any t _ (by omega)).mono ?_
  rintro e w1 ⟨rfl, hb1⟩
  have f1 : Hid (checkRes (Fm.sealB t) = (t, 0)) := check_seal t
  have f2 : Hid (Fm.reg 65535 (Fm.octN (Fm.sealB t)) = 61624) := Fm.reg_sealed t
  have f3 : (Fm.sealB t).size = t.size + 2 := Fm.sealB_size t
  generalize Fm.sealB t = B at f1 f2 f3 ⊢
  have f4 : B.size ≤ 2002 := by omega
  clear f3
  go_wp2_with fail
  refine (check_any B _ (by omega)).mono ?_
  rintro e w2 ⟨rfl, hb2⟩
  rw [f1.out]
  have hq2 := hb1.trans (hb2.mono hb1.size)
  clear hb2 hb1
  go_wp2
  go_loop [6, 22] (fun x c => ∃ i : Nat, i ≤ B.size ∧ c = .int .i64 i ∧ x = .int .u16 ((Fm.regK 65535 B i : Nat) : Int)) (fun _ c => B.size - (intOf c).toNat)
  case atStart => exact ⟨0, Nat.zero_le _, rfl, rfl⟩
  case round =>
    obtain ⟨i, hi, rfl, rfl⟩ := hrel
    have hr : Fm.regK 65535 B i < 65536 := Fm.regK_lt _ B i (by decide)
    by_cases hlt : i < B.size
    · have hb := B[i].toNat_lt
      have HS : Hid (Fm.regK 65535 B (i + 1) = Fm.step (Fm.regK 65535 B i) B[i].toNat) := Fm.regK_succ _ B i hlt
      go_wp2_with (go_at_call 10; refine (step_any _ _ _ hr (by omega)).mono ?_; rintro e w' ⟨rfl, rfl⟩)
      go_round
      case rel => exact ⟨i + 1, by omega, by go_num, by rw [HS.out]⟩
      case measure => simp [intOf]; omega
    · have HE : Hid ((((Fm.regK 65535 B i : Nat) : Int) == 61624) = true) := by
        have e : i = B.size := by omega
        show (((Fm.regK 65535 B i : Nat) : Int) == 61624) = true
        rw [e, Fm.regK_all, f2.out]; rfl
      go_wp2
      go_ret
      exact ⟨ret_bool (by simpa using HE.out), hq2⟩
end Go.Proofs.Ytnagiiaelpnfnaa
